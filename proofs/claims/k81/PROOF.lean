import PyProof.Rows.All
import Wide.All
import OpenK.AllK
import Wide.FinOn
import Lean
import PyProof.EqAt
import PyProof.EqKinds
import PyProof.TupleCall
import PySem.Challenge.RW_boardsight_k81_whole_all_taken_back
set_option Elab.async false
set_option linter.all false
set_option maxRecDepth 100000
def xaa:=@List.length_map
def xab:=@List.length_append
def xac:=@Nat.le_refl
def xad:=@List.size_toArray
def xae:=@List.getElem?_eq_getElem
def xaf:=@List.mem_cons
def xag:=@List.length_take
def xah:=@Nat.lt_of_lt_of_le
def xai:=@List.getElem?_eq_some_iff
def xaj:=@List.map_append
def xak:=@List.getElem?_map
def xal:=@Int.emod_lt_of_pos
def xam:=@List.not_mem_nil
def xan:=@Bool.false_ne_true
def xao:=@List.mem_singleton
def xap:=@Int.emod_nonneg
def xaq:=@List.length_drop
def xar:=@List.mem_cons_of_mem
def xas:=@Nat.ne_of_lt
def xat:=@List.mem_append_right
def xau:=@List.lookup_cons
def xav:=@List.mem_append
def xaw:=@Nat.le_trans
def xax:=@List.length_cons
def xay:=@List.mem_of_getElem?
def xaz:=@Int.ediv_mul_cancel
def xaA:=@List.getElem?_append_left
def xaB:=@List.mem_map
def xaC:=@List.getElem?_append_right
def xaD:=@Int.ediv_nonneg
def xaE:=@List.mem_cons_self
def xaF:=@Nat.le_of_lt
def xaG:=@List.getD_eq_getElem?_getD
def xaH:=@List.mem_of_mem_take
def xaI:=@List.dropLast_concat_getLast
def xaJ:=@Bool.and_eq_true
def xaK:=@List.mem_of_mem_drop
def xaL:=@List.length_replicate
def xaM:=@Nat.lt_irrefl
def xaN:=@Nat.zero_le
def xaO:=@List.reverse_cons
def xaP:=@List.map_take
def xaQ:=@Nat.lt_of_le_of_lt
def xaR:=@List.all_eq_true
def xaS:=@List.mem_append_left
def xaT:=@List.map_drop
def xaU:=@Nat.lt_succ_of_lt
def xaV:=@List.length_reverse
def xaW:=@Option.map_eq_some_iff
def xaX:=@List.take_length
def xaY:=@List.map_cons
def xaZ:=@List.mem_range
def xa0:=@Int.natAbs_ediv_le_natAbs
def xa1:=@List.findIdx_lt_length_of_exists
def xa2:=@Bool.and_eq_true_iff
def xa3:=@List.getElem?_of_mem
def xa4:=@List.take_add_one
def xa5:=@List.getElem?_eq_none
def xa6:=@List.getElem?_eq_none_iff
def xa7:=@List.filterMap_cons
def xa8:=@Nat.le_succ
def xa9:=@Option.isSome_iff_exists
def xba:=@List.getElem?_take_of_lt
def xbb:=@Int.zero_mul
def xbc:=@Bool.eq_iff_iff
def xbd:=@List.getElem?_replicate
def xbe:=@List.range_succ
def xbf:=@Int.dvd_trans
def xbg:=@List.getElem?_set_self
def xbh:=@List.take_of_length_le
def xbi:=@List.length_range
def xbj:=@List.findIdx_cons
def xbk:=@Int.gcd_dvd_right
def xbl:=@List.map_map
def xbm:=@List.getElem_mem
def xbn:=@Int.gcd_dvd_left
def xbo:=@List.getElem?_set_ne
def xbp:=@Nat.pow_le_pow_right
def xbq:=@List.take_nil
def xbr:=@List.nodup_cons
def xbs:=@List.of_mem_zip
def xbt:=@Int.dvd_coe_gcd
def xbu:=@List.mem_filterMap
def xbv:=@Nat.sub_self
def xbw:=@Int.natAbs_mul
def xbx:=@Int.toNat_natCast
def xby:=@List.all_cons
def xbz:=@List.drop_nil
namespace L2
open PySem PySem.Spec PyProof.Rows
abbrev Key:=Sum Int Str
def jkI:Key->Value->Bool
 | .inl k,v=>Value.isInt k v
 | .inr x,v=>Value.isStrOf x v
def keyH (w:World):Key->Int
 | .inl k=>hashInt k
 | .inr x=>hashStr w x
theorem ja0:∀{k:Key} {v:Value},jkI k v=true->(∃i t,k=Sum.inl i/\v=Value.int i t)\/(∃x t,k=Sum.inr x/\v=Value.str x t)
  | .inl i, v, h => by
    obtain⟨t,e⟩:=Value.isInt_shape (k:=i) (v:=v) h;exact .inl ⟨i,t,rfl,e⟩
  | .inr x, v, h => by
    obtain⟨t,e⟩:=Value.isStrOf_shape (x:=x) (v:=v) h;exact .inr ⟨x,t,rfl,e⟩
theorem jkJ (a b:Int):decide ((Sum.inl a:Key)=Sum.inl b)=(a==b):=by
 by_cases e:a=b
 ·subst e;simp
 ·have h:¬(Sum.inl a:Key)=Sum.inl b:=fun q=>e (Sum.inl.inj q);rw[decide_eq_false h];exact (beq_eq_false_iff_ne.mpr e).symm
theorem jkK (a b:Str):decide ((Sum.inr a:Key)=Sum.inr b)=decide (a=b):=by
 by_cases e:a=b
 ·subst e;simp
 ·have h:¬(Sum.inr a:Key)=Sum.inr b:=fun q=>e (Sum.inr.inj q);rw[decide_eq_false h,decide_eq_false e]
theorem jkL (a:Int) (b:Str):decide ((Sum.inl a:Key)=Sum.inr b)=false:=decide_eq_false (fun q=>nomatch q)
theorem jkM (a:Str) (b:Int):decide ((Sum.inr a:Key)=Sum.inl b)=false:=decide_eq_false (fun q=>nomatch q)
def jfv (prog:Program) (w:World):PySem.KeyKind prog w Key where
 is:=jkI
 hash:=keyH w
 inj:=fun v a b ha hb=>by
  rcases ja0 ha with ⟨i,t,rfl,rfl⟩ | ⟨x,t,rfl,rfl⟩
  ·rcases ja0 hb with ⟨j,u,rfl,e⟩ | ⟨y,u,rfl,e⟩
   ·injection e with e1 _;rw[e1]
   ·exact nomatch e
  ·rcases ja0 hb with ⟨j,u,rfl,e⟩ | ⟨y,u,rfl,e⟩
   ·exact nomatch e
   ·injection e with e1 _;rw[e1]
 byValue:=fun k v h=>by
  rcases ja0 h with ⟨i,t,rfl,rfl⟩ | ⟨x,t,rfl,rfl⟩<;>rfl
 pyHash:=fun hv h=>by
  rcases ja0 hv with ⟨i,t,rfl,rfl⟩ | ⟨x,t,rfl,rfl⟩
  ·exact wpAny_pyHash_int h
  ·exact wpAny_pyHash_str h
 eqBool:=fun hu hv h=>by
  rcases ja0 hu with ⟨i,t,rfl,rfl⟩ | ⟨x,t,rfl,rfl⟩
  ·rcases ja0 hv with ⟨j,u,rfl,rfl⟩ | ⟨y,u,rfl,rfl⟩
   ·rw[jkJ] at h;exact wpAny_eqBool_int h
   ·rw[jkL] at h;exact SeqAt.EqAt.int_str i t y u _ _ _ _ h
  ·rcases ja0 hv with ⟨j,u,rfl,rfl⟩ | ⟨y,u,rfl,rfl⟩
   ·rw[jkM] at h;exact SeqAt.EqAt.str_int x t j u _ _ _ _ h
   ·rw[jkK] at h;exact wpAny_eqBool_str h
 «strs»:=fun k x t v h=>by
  rcases ja0 h with ⟨i,u,rfl,e⟩ | ⟨y,u,rfl,e⟩
  ·exact nomatch e
  ·injection e with e1 _
   subst e1
   cases v<;>rfl
inductive V where
 | non | bl (b:Bool) | int (i:Int) | str (x:Str) | byt (b:Array UInt8) | flt (b:UInt64) | ref (a:Addr) | ty (n:String)
 deriving DecidableEq
def RelV:V->Value->Prop
 | .non,u=>u=Value.none
 | .bl b,u=>u=Value.bool b
 | .int i,u=>∃t,u=Value.int i t
 | .str x,u=>∃t,u=Value.str x t
 | .byt b,u=>∃t,u=Value.bytes b t
 | .flt b,u=>∃t,u=Value.float b t
 | .ref a,u=>u=Value.ref a
 | .ty n,u=>u=Value.type n
abbrev Vals:List V->List Value->Prop:=Paired RelV
theorem Vals.length {xs:List V} {us:List Value} (r:Vals xs us):xs.length=us.length:=Paired.length r
theorem Vals.get:∀{xs:List V} {us:List Value} {i:Nat} {x:V},Vals xs us->xs[i]?=some x->∃u,us[i]?=some u/\RelV x u
  | _,_,_,_,.nil,e=>by simp at e
  | _,_,0,_,.cons r _,e=>by simp at e;subst e;exact⟨_,rfl,r⟩
  | _, _, i + 1, x, .cons _ t, e => by
    obtain⟨u,h1,h2⟩:=Vals.get (i:=i) (x:=x) t (by simpa using e);exact⟨u,by simpa using h1,h2⟩
theorem Vals.set {x:V} {u:Value} (r:RelV x u):∀{xs:List V} {us:List Value} (i:Nat),Vals xs us->Vals (xs.set i x) (us.set i u)
 | _,_,_,.nil=>.nil
 | _,_,0,.cons _ t=>.cons r t
 | _,_,i+1,.cons q t=>.cons q (Vals.set r i t)
theorem Vals.append:∀{xs ys:List V} {us ws:List Value},Vals xs us->Vals ys ws->Vals (xs++ys) (us++ws)
 | _,_,_,_,.nil,s=>s
 | _,_,_,_,.cons r t,s=>.cons r (Vals.append t s)
theorem Vals.take:∀{xs:List V} {us:List Value} (n:Nat),Vals xs us->Vals (xs.take n) (us.take n)
 | _,_,0,_=>.nil
 | _,_,_+1,.nil=>.nil
 | _,_,n+1,.cons r t=>.cons r (Vals.take n t)
theorem Vals.drop:∀{xs:List V} {us:List Value} (n:Nat),Vals xs us->Vals (xs.drop n) (us.drop n)
 | _,_,0,r=>r
 | _,_,_+1,.nil=>.nil
 | _,_,n+1,.cons _ t=>Vals.drop n t
theorem Vals.none_of:∀{xs:List V} {us:List Value} {i:Nat},Vals xs us->xs[i]?=none->us[i]?=none:=fun {xs us i} r e=>by
 have h1:=r.length;have h2:xs.length<=i:=xa6.mp e;exact xa6.mpr (by omega)
def RelO:Option V->Option Value->Prop
 | some v,some u=>RelV v u
 | none,none=>True
 | _,_=>False
def KV {κ:Type}:List (κ × V)->List (κ × Value)->Prop:=Paired fun (p:κ × V) (q:κ × Value)=>p.1=q.1/\RelV p.2 q.2
def kV:Key->V
 | .inl i=>.int i
 | .inr x=>.str x
inductive HO where
 | lst (xs:List V)
 | tup (xs:List V)
 | dK (kvs:List (Key × V)) | dT (kvs:List (List Key × V))
 | set (S:Int->Bool) (n:Nat)
 | ins (C dx:Addr) (fs:List (Str × V))
 | own (x:Addr)
 | xd (fs:List (Str × V))
 | met (f x:Addr)
 | rng (lo hi:Int)
 | frz (o:Obj) (u:HO)
 | tbl (ps:Array Value)
 | ext (φ:Heap->Prop)
abbrev Hp:=Addr->Option HO
def upd (H:Hp) (a:Addr) (o:HO):Hp:=fun b=>if b=a then some o else H b
theorem upd_same {H:Hp} {a:Addr} {o:HO}:upd H a o a=some o:=by unfold upd;rw[if_pos rfl]
theorem jat {H:Hp} {a b:Addr} {o:HO} (h:b≠a):upd H a o b=H b:=by unfold upd;rw[if_neg h]
theorem ne_of {H:Hp} {a b:Addr} {o u:HO} (h:H a=some o) (h':H b=some u) (d:o≠u):a≠b:=by
 intro e;subst e;rw[h] at h';exact d (Option.some.inj h')
theorem jaD {H:Hp} {a b:Addr} {o:HO} (h:H a=some o) (h':H b=none):a≠b:=by
 intro e;subst e;rw[h] at h';cases h'
section
variable (P:Program) (w:World)
def ObjOk (H:Hp) (h:Heap) (a:Addr):HO->Prop
 | .lst xs=>xs.length<=sizeLine/\∃(its:List Value) (n:Nat),Vals xs its/\h.get? a=some { cls:=.type "list",data:=.seq its.toArray n }
 | .tup xs=>xs.length<=sizeLine/\∃its:List Value,Vals xs its/\IsTup h a its.toArray
 | .dK kvs=>kvs.length<=sizeLine/\(a==sysModules)=false/\∃vs,KV kvs vs/\h.DictOf (jfv P w) a vs
 | .dT kvs=>kvs.length <= sizeLine /\ (a==sysModules)=false /\ ∃xs:List (List Key × Addr × Value),
   Paired (fun (p:List Key × V) (q:List Key × Addr × Value)=>p.1=q.1/\H q.2.1=some (.tup (p.1.map kV))/\RelV p.2 q.2.2) kvs xs /\
   ∃o es ep,h.get? a=some o/\o.ExactDict/\o.data=.dict es ep/\es.toList=xs.map (entryOfKey (tupleKind (jfv P w)))/\(xs.map (·.1)).Nodup
 | .set S n=>h.SetOf (intKind P w) a S n
 | .ins C dx fs=>H dx=some (.own a) /\ fs.length <= 1000 /\ dx≠a /\ h.get? a=some (PySem.W.instObj C dx) /\
   ∃mA,h.Ns1 dx mA/\(∀f,RelO (fs.lookup f) (mA f))/\PySem.Within mA (fs.map (·.1))
 | .own _=>∃o,h.get? a=some o
 | .xd fs=>∃mA,h.Ns1 a mA/\∀f,RelO (fs.lookup f) (mA f)
 | .rng lo hi=>∃t u v,h.get? a=some { cls:=.type "range",data:=.fields #[.int lo t,.int hi u,.int 1 v] }
 | .frz o u=>h.get? a=some o/\ObjOk H h a u
 | .tbl ps=>h.get? a=some { cls:=.none,data:=.fields ps }
 | .met f x=>h.get? a=some (PySem.W.methodObj (.ref f) (.ref x))
 | .ext φ=>φ h/\(∃o,h.get? a=some o)/\∀h1 h2:Heap,φ h1->(∀o,h1.get? a=some o->h2.get? a=some o)->φ h2
def HOk (H:Hp) (h:Heap):Prop:=∀a o,H a=some o->ObjOk P w H h a o
end
section
variable {P:Program} {w:World} {H H':Hp} {h h':Heap} {a:Addr} {o:HO}
theorem ObjOk.lt (x:ObjOk P w H h a o):a<h.objs.size:=by
 cases o with
 | lst xs=>obtain⟨_,_,_,_,e⟩:=x;exact Heap.lt_size e
 | tup xs=>obtain⟨_,_,_,p⟩:=x;exact p.lt
 | dK kvs=>obtain⟨_,_,_,_,o,_,_,e,_⟩:=x;exact Heap.lt_size e
 | dT kvs=>obtain⟨_,_,_,_,o,_,_,e,_⟩:=x;exact Heap.lt_size e
 | set S n=>obtain⟨o,_,_,_,e,_⟩:=x;exact Heap.lt_size e
 | ins C dx fs=>obtain⟨_,_,_,e,_⟩:=x;exact Heap.lt_size e
 | own y=>obtain⟨_,e⟩:=x;exact Heap.lt_size e
 | xd fs=>obtain⟨_,⟨_,_,_,e,_⟩,_⟩:=x;exact Heap.lt_size e
 | rng lo hi=>obtain⟨_,_,_,e⟩:=x;exact Heap.lt_size e
 | frz ob u=>obtain⟨e,_⟩:=x;exact Heap.lt_size e
 | tbl ps=>exact Heap.lt_size (show h.get? a=some _ from x)
 | met f y=>exact Heap.lt_size (show h.get? a=some _ from x)
 | ext φ=>obtain⟨_,⟨_,e⟩,_⟩:=x;exact Heap.lt_size e
theorem Paired.mapP {α β:Type} {F G:α->β->Prop}:∀{l₁:List α} {l₂:List β},Paired F l₁ l₂->(∀a b,F a b->G a b)->Paired G l₁ l₂
 | _,_,.nil,_=>.nil
 | _,_,.cons r t,f=>.cons (f _ _ r) (Paired.mapP t f)
theorem ObjOk.stay (x:ObjOk P w H h a o) (k:∀b u,(b=a\/H b=some (.own a))->h.get? b=some u->h'.get? b=some u)
    (ho:∀b,H b=some (.own a)->H' b=some (.own a)) (ht:∀b xs,H b=some (.tup xs)->H' b=some (.tup xs)):ObjOk P w H' h' a o:=by
  induction o with
  | lst xs=>obtain⟨z,its,n,r,e⟩:=x;exact⟨z,its,n,r,k _ _ (.inl rfl) e⟩
  | tup xs=>obtain⟨z,its,r,ob,e,c⟩:=x;exact⟨z,its,r,ob,k _ _ (.inl rfl) e,c⟩
  | dK kvs=>obtain⟨z,y,vs,r,ob,es,ep,e,c⟩:=x;exact⟨z,y,vs,r,ob,es,ep,k _ _ (.inl rfl) e,c⟩
  | dT kvs =>
    obtain⟨z,y,xs,r,ob,es,ep,e,c⟩:=x;exact⟨z,y,xs,Paired.mapP r fun p q z=>⟨z.1,ht _ _ z.2.1,z.2.2⟩,ob,es,ep,k _ _ (.inl rfl) e,c⟩
  | set S n=>obtain⟨ob,es,ep,t,e,c⟩:=x;exact⟨ob,es,ep,t,k _ _ (.inl rfl) e,c⟩
  | ins C dx fs =>
    obtain⟨d,z,ne,e,mA,⟨od,es,ep,e2,c⟩,r⟩:=x;exact⟨ho _ d,z,ne,k _ _ (.inl rfl) e,mA,⟨od,es,ep,k _ _ (.inr d) e2,c⟩,r⟩
  | own y=>obtain⟨ob,e⟩:=x;exact⟨ob,k _ _ (.inl rfl) e⟩
  | xd fs=>obtain⟨mA,⟨od,es,ep,e,c⟩,r⟩:=x;exact⟨mA,⟨od,es,ep,k _ _ (.inl rfl) e,c⟩,r⟩
  | rng lo hi=>obtain⟨t,u,v,e⟩:=x;exact⟨t,u,v,k _ _ (.inl rfl) e⟩
  | frz ob u ih=>obtain⟨e,q⟩:=x;exact⟨k _ _ (.inl rfl) e,ih q⟩
  | tbl ps =>
    have e:h.get? a=some { cls:=.none,data:=.fields ps }:=x;show h'.get? a=some { cls:=.none,data:=.fields ps };exact k a _ (.inl rfl) e
  | met f y =>
    have e:h.get? a=some (PySem.W.methodObj (.ref f) (.ref y)):=x;show h'.get? a=some (PySem.W.methodObj (.ref f) (.ref y));exact k a _ (.inl rfl) e
  | ext φ=>obtain⟨p,⟨o,e⟩,st⟩:=x;exact⟨st _ _ p fun o q=>k _ _ (.inl rfl) q,⟨o,k _ _ (.inl rfl) e⟩,st⟩
theorem HOk.lt (x:HOk P w H h) (e:H a=some o):a<h.objs.size:=(x a o e).lt
theorem HOk.fresh (x:HOk P w H h) (e:h.objs.size<=a):H a=none:=by
 cases q:H a with
 | none=>rfl
 | some u=>exact absurd (xah (x.lt q) e) (xaM _)
theorem HOk.kept (x:HOk P w H h) (k:∀b u,h.get? b=some u->h'.get? b=some u):HOk P w H h':=fun a o e =>
 (x a o e).stay (fun b u _ q=>k b u q) (fun _ q=>q) fun _ _ q=>q
theorem HOk.laid (x:HOk P w H h) (k:∀b u,h.get? b=some u->h'.get? b=some u) (hp:h.objs.size<=a) (new:ObjOk P w (upd H a o) h' a o):HOk P w (upd H a o) h':=fun b u e=>by
 have hn:=x.fresh hp;by_cases hb:b=a
 ·subst hb;rw[upd_same] at e;cases e;exact new
 ·rw[jat hb] at e;exact (x b u e).stay (fun c v _ q=>k c v q) (fun c q=>by rw[jat (jaD q hn)];exact q) fun c xs q=>by rw[jat (jaD q hn)];exact q
end
def Rd (H:Hp) (a:Addr) (u:HO):Prop:=H a=some u\/∃o,H a=some (.frz o u)
theorem Rd.of {H:Hp} {a:Addr} {u:HO} (h:H a=some u):Rd H a u:=.inl h
theorem Rd.ok {P:Program} {w:World} {H:Hp} {h:Heap} {a:Addr} {u:HO} (r:Rd H a u) (x:HOk P w H h):ObjOk P w H h a u:=by
 rcases r with r | ⟨o,r⟩
 ·exact x a u r
 ·obtain⟨_,q⟩:=x a _ r;exact q
def Mut:Option HO->Prop
 | some (.lst _)=>True
 | some (.dK _)=>True
 | some (.dT _)=>True
 | some (.set _ _)=>True
 | some (.ins _ _ _)=>True
 | some (.ext _)=>True
 | _=>False
section
variable {P:Program} {w:World} {H:Hp} {h h':Heap} {x e:Addr} {o':HO}
theorem HOk.write (ok:HOk P w H h) (mu:Mut (H x)) (he:e=x\/H e=some (.own x)) (k:∀b u,b≠e->h.get? b=some u->h'.get? b=some u) (heo:∃u,h'.get? e=some u)
  (new:ObjOk P w (upd H x o') h' x o'):HOk P w (upd H x o') h':=fun b u q=>by
 have nown:∀c y,H c=some (.own y)->c≠x:=fun c y r z=>by subst z;rw[r] at mu;exact mu
 have ntup:∀c xs,H c=some (.tup xs)->c≠x:=fun c xs r z=>by subst z;rw[r] at mu;exact mu
 by_cases hb:b=x
 ·subst hb;rw[upd_same] at q;cases q;exact new
 ·rw[jat hb] at q;by_cases hbe:b=e
  ·have q':H b=some (.own x):=by
    rcases he with z | z
    ·exact absurd (hbe.trans z) hb
    ·rw[hbe];exact z
   rw[q] at q';cases q';obtain⟨v,hv⟩:=heo;exact⟨v,by rw[hbe];exact hv⟩
  ·refine (ok b u q).stay (fun c v hc r=>k c v ?_ r) (fun c r=>by rw[jat (nown c b r)];exact r) fun c xs r=>by rw[jat (ntup c xs r)];exact r
   rcases hc with rfl | hc
   ·exact hbe
   ·rintro rfl;rcases he with z | z
    ·exact nown c b hc z
    ·rw[hc] at z;cases z;exact hb rfl
end
structure Un (fs ex:List Addr) (H H':Hp) (h h':Heap):Prop where
 keep:∀b o,h.get? b=some o->H b=none->b∉fs->b∉ex->h'.get? b=some o
 slot:∀b o,h.get? b=some o->H b=none->b∈fs->b∉ex->∃sl,h'.get? b=some { o with slots:=sl }
 free:∀b o,h.get? b=some o->H b=none->b∉ex->H' b=none
 there:∀b o,h.get? b=some o->b∉ex->∃o',h'.get? b=some o'
 tups:∀b xs,H b=some (.tup xs)->H' b=some (.tup xs)
 frzs:∀b o u,H b=some (.frz o u)->H' b=some (.frz o u)
 tbls:∀b ps,H b=some (.tbl ps)->∃more,H' b=some (.tbl (ps++more))
section
variable {fs fs' ex ex':List Addr} {H H1 H2:Hp} {h h1 h2 h':Heap} {a x e:Addr} {o:HO}
theorem Un.any (u:Un fs ex H H1 h h1) {b:Addr} {ob:Obj} (q:h.get? b=some ob) (n:H b=none) (hx:b∉ex):∃sl,h1.get? b=some { ob with slots:=sl }:=by
 by_cases hb:b∈fs
 ·exact u.slot b ob q n hb hx
 ·exact⟨ob.slots,u.keep b ob q n hb hx⟩
theorem Un.trans (a:Un fs ex H H1 h h1) (b:Un fs ex H1 H2 h1 h2):Un fs ex H H2 h h2 where
 keep:=fun c ob q n hc hx=>b.keep c ob (a.keep c ob q n hc hx) (a.free c ob q n hx) hc hx
 slot:=fun c ob q n hc hx=>by
  obtain⟨sl,e1⟩:=a.slot c ob q n hc hx;obtain⟨sl',e2⟩:=b.slot c _ e1 (a.free c ob q n hx) hc hx;exact⟨sl',e2⟩
 free:=fun c ob q n hx=>by
  obtain⟨o',e1⟩:=a.there c ob q hx;exact b.free c o' e1 (a.free c ob q n hx) hx
 there:=fun c ob q hx=>by
  obtain⟨o',e1⟩:=a.there c ob q hx;exact b.there c o' e1 hx
 tups:=fun c xs q=>b.tups c xs (a.tups c xs q)
 frzs:=fun c ob xs q=>b.frzs c ob xs (a.frzs c ob xs q)
 tbls:=fun c ps q=>by
  obtain⟨m1,e1⟩:=a.tbls c ps q;obtain⟨m2,e2⟩:=b.tbls c _ e1;exact⟨m1++m2,by rw[e2,Array.append_assoc]⟩
theorem Un.kept (k:∀b u,h.get? b=some u->h'.get? b=some u):Un fs ex H H h h' :=
 ⟨fun b ob q _ _ _=>k b ob q,fun b ob q _ _ _=>⟨ob.slots,k b ob q⟩,fun _ _ _ n _=>n,fun b ob q _=>⟨ob,k b ob q⟩,fun _ _ q=>q,fun _ _ _ q=>q,fun _ ps q=>⟨#[],by rw[q];simp⟩⟩
theorem Un.refl:Un fs ex H H h h:=Un.kept fun _ _ q=>q
theorem Un.laid (k:∀b u,h.get? b=some u->h'.get? b=some u) (hp:h.objs.size<=a) (hn:H a=none):Un fs ex H (upd H a o) h h' where
 keep:=fun b u q _ _ _=>k b u q
 slot:=fun b u q _ _ _=>⟨u.slots,k b u q⟩
 free:=fun b u q n _=>by rw[jat (xas (xah (Heap.lt_size q) hp))];exact n
 there:=fun b u q _=>⟨u,k b u q⟩
 tups:=fun b xs q=>by rw[jat (jaD q hn)];exact q
 frzs:=fun b u xs q=>by rw[jat (jaD q hn)];exact q
 tbls:=fun b ps q=>⟨#[],by rw[jat (jaD q hn),q];simp⟩
theorem Un.write (mu:Mut (H x)) (he:e=x\/H e=some (.own x)) (k:∀b u,b≠e->h.get? b=some u->h'.get? b=some u) (heo:∃u,h'.get? e=some u):Un fs ex H (upd H x o) h h':=by
 have hx:∀b,H b=none->b≠x:=fun b n z=>by subst z;rw[n] at mu;exact mu
 have hb:∀b,H b=none->b≠e:=fun b n z=>by
  subst z;rcases he with r | r
  ·exact hx b n r
  ·rw[n] at r;cases r
 have hm:∀b u,H b=some u->¬Mut (some u)->b≠x:=fun b u q nm z=>by subst z;rw[q] at mu;exact nm mu
 refine⟨fun b u q n _ _=>k b u (hb b n) q,fun b u q n _ _=>⟨u.slots,k b u (hb b n) q⟩,fun b u q n _=>by rw[jat (hx b n)];exact n,fun b u q _=>?_,
  fun b xs q=>by rw[jat (hm b _ q fun z=>z)];exact q,fun b u xs q=>by rw[jat (hm b _ q fun z=>z)];exact q,fun b ps q=>⟨#[],by rw[jat (hm b _ q fun z=>z),q];simp⟩⟩
 by_cases hbe:b=e
 ·subst hbe;exact heo
 ·exact⟨u,k b u hbe q⟩
theorem Un.mono (u:Un fs ex H H1 h h1) (hs:∀b∈fs,b∈fs') (hx:∀b∈ex,b∈ex'):Un fs' ex' H H1 h h1 :=
 ⟨fun b ob q n hb he=>u.keep b ob q n (fun z=>hb (hs b z)) fun z=>he (hx b z),fun _ _ q n _ he=>u.any q n fun z=>he (hx _ z),fun b ob q n he=>u.free b ob q n fun z=>he (hx b z),fun b ob q he=>u.there b ob q fun z=>he (hx b z),u.tups,u.frzs,u.tbls⟩
end
def trk (h:Heap) (H:Hp):List Addr:=(List.range h.objs.size).filter fun a=>(H a).isSome
def jie (h:Heap) (H:Hp):Heap:=PySem.W.hideAll h (trk h H)
theorem jgT (h:Heap) (H:Hp):(jie h H).objs.size=h.objs.size:=PySem.W.hideAll_size _ _
theorem jif {h:Heap} {H:Hp} {b:Addr} {o:Obj} (e:h.get? b=some o) (n:H b=none):(jie h H).get? b=some o :=
 PySem.W.hideAll_get _ e fun hm=>by
  have q:(H b).isSome=true:=(List.mem_filter.mp hm).2;rw[n] at q;simp at q
theorem jjB {h:Heap} {H:Hp} {b:Addr} {o:Obj} (e:(jie h H).get? b=some o):h.get? b=some o/\H b=none:=by
  have e':h.get? b=some o:=PySem.W.of_hideAll (trk h H) e;refine⟨e',?_⟩;cases q:H b with
  | none=>rfl
  | some x =>
    have hm:b∈trk h H:=List.mem_filter.mpr ⟨xaZ.mpr (Heap.lt_size e'),by simp [q]⟩;have z:(jie h H).get? b=none:=PySem.W.hideAll_none (trk h H) hm;rw[z] at e;cases e
def jjC (g h:Heap) (L:Addr):List (Addr × Obj):=(List.range h.objs.size).filterMap fun a=>if a=L\/(g.get? a).isSome=true then none else (h.get? a).map fun o=>(a,o)
def jbj (g h:Heap) (L d:Addr):List (Addr × Obj):=(jjC g h L).filter fun p=>decide (p.1≠d)
structure Mod (K:PySem.W.Frag) (mg:Str->Option Value) (base:Heap):Prop where
 kin:K.In base
 glob:base.Ns mainGlobals mg
 blt:∃mb,base.Ns builtinsNs mb/\∀x:Str,x≠"__name__"->mb x=bootBuiltins x
 nolimit:base.NoLimit
structure Cx where
 prog:Program
 w:World
 K:PySem.W.Frag
 mg:Str->Option Value
 base:Heap
 A:Around
 N:List Str
 s₀:Shared
 H₀:Hp
 env:Env
 outer:List Env
 stack:List Env
 ex:List Addr
 fn:Str->Bool
 calm:Bool
 pn:List (Addr × Obj)
 xe:Value->Shared->Prop
def frs (l:List Env):List Addr:=l.filterMap (·.frame)
abbrev Cx.fs (X:Cx):List Addr:=frs X.outer
def Vis (sc:Scope) (x:Str):Prop:=sc.names.lookup x=some .local\/sc.names.lookup x=some .cell\/sc.names.lookup x=some .free
def Loc (sc:Scope) (x:Str):Prop:=sc.names.lookup x=some .local\/sc.names.lookup x=some .cell
def Look (env:Env) (h:Heap) (m:Str->Option Value) (x:Str) (u:Value):Prop :=
 (env.kindOf x=some .local/\m x=some u)\/((env.kindOf x=some .cell\/env.kindOf x=some .free)/\∃c,env.cells.lookup x=some c/\h.IsCell c (some u))
structure Cx.Ok (X:Cx):Prop where
 mod:Mod X.K X.mg X.base
 kind:X.env.scope.kind=.function
 glob:X.env.globals=mainGlobals
 blt:X.env.builtins=builtinsNs
 above:X.s₀.heap.objs.size<=X.env.locals
 inj:∀x y c,X.env.cells.lookup x=some c->X.env.cells.lookup y=some c->x=y
 has:∀x,(X.env.kindOf x=some .cell\/X.env.kindOf x=some .free)->∃c,X.env.cells.lookup x=some c
 cab:∀x c,X.fn x=true->X.env.cells.lookup x=some c->X.s₀.heap.objs.size<=c
 hd:X.calm=true->X.A.handled=none
 frames:X.A.frames=some X.stack
 stk:X.stack=X.outer\/(X.stack=X.env::X.outer/\X.env.frame=some X.env.locals)
 exf:∀b∈X.ex,b≠X.env.locals/\∀x c,X.env.cells.lookup x=some c->c≠b
 bs:∀b o,X.base.get? b=some o->X.s₀.heap.get? b=some o/\X.H₀ b=none
 bsz:X.base.objs.size<=X.s₀.heap.objs.size
 noex:∀b o,X.base.get? b=some o->b∉X.ex
 exfs:∀b∈X.ex,b∉X.fs
 funs:X.s₀.heap.FunFrames X.base X.outer
 frf:∀b∈X.fs,X.H₀ b=none
structure Inv (X:Cx) (pins:List (Addr × Obj)) (σ:List (Option V)) (H:Hp) (s:Shared):Prop where
 ok:X.Ok
 os:s.os=X.s₀.os
 bare:AllBare s.gens
 base:Un X.fs X.ex X.H₀ H X.s₀.heap s.heap
 loc:∃m,s.heap.Ns X.env.locals m/\∀(i:Nat) (x:Str) (v:V),X.N[i]?=some x->σ[i]?=some (some v)->Vis X.env.scope x->∃u,RelV v u/\Look X.env s.heap m x u
 cell:∀x c,X.env.cells.lookup x=some c->∃v,s.heap.IsCell c v
 free:H X.env.locals=none
 freeC:∀x c,X.env.cells.lookup x=some c->H c=none
 pin:∀p∈X.pn++pins,s.heap.get? p.1=some p.2/\H p.1=none/\p.1≠X.env.locals/\p.1∉X.fs/\∀v,p.2.data≠.cell v
 hok:HOk X.prog X.w H s.heap
 len:σ.length=X.N.length
section
variable {X:Cx} {pins:List (Addr × Obj)} {σ:List (Option V)} {H H':Hp} {s:Shared} {h':Heap}
theorem Cx.Ok.nofr (ok:X.Ok) {b:Addr} {o:Obj} (e:X.base.get? b=some o):b∉X.fs:=fun hb=>by
 have:=(ok.funs.mem hb).1;rw[e] at this;cases this
theorem Inv.bs (I:Inv X pins σ H s):∀b o,X.base.get? b=some o->s.heap.get? b=some o/\H b=none:=fun b o e =>
 ⟨I.base.keep b o (I.ok.bs b o e).1 (I.ok.bs b o e).2 (I.ok.nofr e) (I.ok.noex b o e),I.base.free b o (I.ok.bs b o e).1 (I.ok.bs b o e).2 (I.ok.noex b o e)⟩
theorem Inv.bk (I:Inv X pins σ H s):∀b o,X.base.get? b=some o->s.heap.get? b=some o:=fun b o e=>(I.bs b o e).1
theorem Inv.mod (I:Inv X pins σ H s):Mod X.K X.mg X.base:=I.ok.mod
theorem Inv.kIn (I:Inv X pins σ H s):X.K.In s.heap:=I.ok.mod.kin.keeps I.bk
theorem Inv.nolimit (I:Inv X pins σ H s):s.heap.NoLimit:=I.ok.mod.nolimit.keeps I.bk
theorem Inv.fr (I:Inv X pins σ H s):∃m,Fr X.base X.env.locals s.heap m :=
 let ⟨m,hn,_⟩:=I.loc
 ⟨m,hn,I.bk,xaw I.ok.bsz I.ok.above⟩
theorem Inv.lt (I:Inv X pins σ H s):X.env.locals<s.heap.objs.size:=let ⟨_,hn,_⟩:=I.loc;hn.lt
theorem Inv.sz (I:Inv X pins σ H s):X.s₀.heap.objs.size<=s.heap.objs.size:=xaw I.ok.above (xaF I.lt)
theorem Inv.nofs (I:Inv X pins σ H s) {a:Addr} (h:s.heap.objs.size<=a):a∉X.fs:=fun hb=>by
 obtain⟨_,o,ho,_⟩:=I.ok.funs.mem hb;exact absurd (xah (Heap.lt_size ho) (xaw I.sz h)) (xaM _)
theorem Inv.cne (I:Inv X pins σ H s):∀x c,X.env.cells.lookup x=some c->c≠X.env.locals:=fun x c e z=>by
 obtain⟨v,o,ho,hd⟩:=I.cell x c e;obtain⟨m,⟨o',es,ep,ho',hd',_⟩,_⟩:=I.loc;rw[z,ho'] at ho;cases ho;rw[hd'] at hd;cases hd
theorem Inv.funs (I:Inv X pins σ H s):s.heap.FunFrames X.base X.outer:=by
  have all:∀(l:List Env),(∀b∈frs l,b∈X.fs)->X.s₀.heap.FunFrames X.base l->s.heap.FunFrames X.base l:=by
    intro l;induction l with
    | nil=>intro _ _;trivial
    | cons env r ih =>
      intro hs hl;obtain⟨hk,⟨L,o,hf,hn,ho,hd⟩,hr⟩:=hl;have hL:L∈X.fs:=hs L (by unfold frs;rw[xa7,hf];exact xaE);obtain⟨sl,e⟩:=I.base.slot L o ho (I.ok.frf L hL) hL fun z=>I.ok.exfs L z hL;exact⟨hk,⟨L,_,hf,hn,e,hd⟩,ih (fun b hb=>hs b (by unfold frs;rw[xa7,hf];exact xar _ hb)) hr⟩
  exact all X.outer (fun _ hb=>hb) I.ok.funs
theorem Inv.stack (I:Inv X pins σ H s):s.heap.FunFrames X.base X.stack:=by
 rcases I.ok.stk with e | ⟨e,hf⟩
 ·rw[e];exact I.funs
 ·rw[e];obtain⟨m,hn,_⟩:=I.loc;refine .cons (by rw[I.ok.kind];decide) hf hn ?_ I.funs;exact Heap.get?_none_of_le (xaw I.ok.bsz I.ok.above)
theorem Inv.stkSub (I:Inv X pins σ H s):∀b∈frs X.stack,b∈X.env.locals::X.fs:=fun b hb=>by
 rcases I.ok.stk with e | ⟨e,hf⟩
 ·rw[e] at hb;exact xar _ hb
 ·rw[e] at hb;unfold frs at hb;rw[xa7,hf] at hb;exact hb
theorem Inv.stkFree (I:Inv X pins σ H s):∀b∈frs X.stack,H b=none:=fun b hb=>by
 rcases xaf.mp (I.stkSub b hb) with e | hb
 ·rw[e];exact I.free
 ·obtain⟨_,o,ho,_⟩:=I.ok.funs.mem hb;exact I.base.free b o ho (I.ok.frf b hb) fun z=>I.ok.exfs b z hb
theorem Inv.step {g':Array GenState} {t':Nat} {d':Drawn} {ch:List Addr} (I:Inv X pins σ H s)
  (hch:∀b∈ch,(b∈X.ex\/X.s₀.heap.objs.size<=b)/\b≠X.env.locals/\(∀x c,X.env.cells.lookup x=some c->c≠b)/\∀p∈X.pn++pins,p.1≠b)
  (keep:∀b o,b≠X.env.locals->b∉X.fs->b∉ch->s.heap.get? b=some o->H b=none->h'.get? b=some o)
  (slot:∀b o,b≠X.env.locals->b∈X.fs->b∉ch->s.heap.get? b=some o->H b=none->∃sl,h'.get? b=some { o with slots:=sl }) (free:∀b o,b∉ch->s.heap.get? b=some o->H b=none->H' b=none)
  (there:∀b o,b∉ch->s.heap.get? b=some o->∃o',h'.get? b=some o')
  (tups:∀b xs,H b=some (.tup xs)->H' b=some (.tup xs)) (frzs:∀b o u,H b=some (.frz o u)->H' b=some (.frz o u)) (tbls:∀b ps,H b=some (.tbl ps)->∃more,H' b=some (.tbl (ps++more)))
  (ns:∀m,s.heap.Ns X.env.locals m->h'.Ns X.env.locals m) (hok:HOk X.prog X.w H' h') (hg:AllBare g') :
  Inv X pins σ H' { s with heap:=h',gens:=g',drawn:=d',toks:=t' }:=by
 have neL:∀b o,X.s₀.heap.get? b=some o->b≠X.env.locals:=fun b o e=>xas (xah (Heap.lt_size e) I.ok.above);have neC:∀b o,X.s₀.heap.get? b=some o->b∉X.ex->b∉ch:=fun b o e hx hb=>by
  rcases (hch b hb).1 with z | z
  ·exact hx z
  ·exact absurd (xah (Heap.lt_size e) z) (xaM _)
 have cellK:∀x c,X.env.cells.lookup x=some c->∀v,s.heap.IsCell c v->h'.IsCell c v:=fun x c e v ⟨o,ho,hd⟩=>by
  have nch:c∉ch:=fun z=>(hch c z).2.2.1 x c e rfl;by_cases hc:c∈X.fs
  ·obtain⟨sl,q⟩:=slot c o (I.cne x c e) hc nch ho (I.freeC x c e);exact⟨_,q,hd⟩
  ·exact⟨o,keep c o (I.cne x c e) hc nch ho (I.freeC x c e),hd⟩
 refine⟨I.ok,I.os,hg,⟨fun b o e n hb hx=>?_,fun b o e n hb hx=>?_,fun b o e n hx=>?_,fun b o e hx=>?_,fun b xs e=>tups b xs (I.base.tups b xs e),fun b o xs e=>frzs b o xs (I.base.frzs b o xs e),fun b ps e=>?_⟩,?_,fun x c e=>?_,?_,fun x c e=>?_,fun p hp=>?_,hok,I.len⟩
 ·exact keep b o (neL b o e) hb (neC b o e hx) (I.base.keep b o e n hb hx) (I.base.free b o e n hx)
 ·obtain⟨sl,e1⟩:=I.base.slot b o e n hb hx;obtain⟨sl',e2⟩:=slot b _ (neL b o e) hb (neC b o e hx) e1 (I.base.free b o e n hx);exact⟨sl',e2⟩
 ·obtain⟨o',e1⟩:=I.base.there b o e hx;exact free b o' (neC b o e hx) e1 (I.base.free b o e n hx)
 ·obtain⟨o',e1⟩:=I.base.there b o e hx;exact there b o' (neC b o e hx) e1
 ·obtain⟨m1,e1⟩:=I.base.tbls b ps e;obtain⟨m2,e2⟩:=tbls b _ e1;exact⟨m1++m2,by rw[e2,Array.append_assoc]⟩
 ·obtain⟨m,hn,hl⟩:=I.loc;refine⟨m,ns m hn,fun i x v e1 e2 e3=>?_⟩;obtain⟨u,r,l⟩:=hl i x v e1 e2 e3;refine⟨u,r,?_⟩;rcases l with l | ⟨k,c,e,z⟩
  ·exact .inl l
  ·exact .inr ⟨k,c,e,cellK x c e _ z⟩
 ·obtain⟨v,z⟩:=I.cell x c e;exact⟨v,cellK x c e v z⟩
 ·obtain⟨m,⟨o,_,_,ho,_⟩,_⟩:=I.loc;exact free _ o (fun z=>(hch _ z).2.1 rfl) ho I.free
 ·obtain⟨v,o,ho,hd⟩:=I.cell x c e;exact free c o (fun z=>(hch c z).2.2.1 x c e rfl) ho (I.freeC x c e)
 ·obtain⟨e,n,ne,nf,d⟩:=I.pin p hp;have nch:p.1∉ch:=fun z=>(hch p.1 z).2.2.2 p hp rfl;exact⟨keep p.1 p.2 ne nf nch e n,free p.1 p.2 nch e n,ne,nf,d⟩
theorem Inv.un {t':Nat} (I:Inv X pins σ H s) (u:Un X.fs [] H H' s.heap h') (hok:HOk X.prog X.w H' h'):Inv X pins σ H' { s with heap:=h',toks:=t' }:=by
 obtain⟨m,⟨o,es,ep,ho,r⟩,_⟩:=id I.loc;obtain⟨sl,hL⟩:=u.any ho I.free (by simp);exact I.step (g':=s.gens) (d':=s.drawn) (ch:=[]) (fun _ z=>nomatch z) (fun b o _ hb _ e n=>u.keep b o e n hb (by simp)) (fun b o _ hb _ e n=>u.slot b o e n hb (by simp)) (fun b o _ e n=>u.free b o e n (by simp)) (fun b o _ e=>u.there b o e (by simp)) u.tups u.frzs u.tbls (fun m' hm=>by
  obtain⟨o',es',ep',ho',r'⟩:=hm;rw[ho] at ho';cases ho';exact⟨_,es',ep',hL,r'⟩) hok I.bare
theorem Inv.call {g':Array GenState} {t':Nat} {d':Drawn} {ch:List Addr} (I:Inv X pins σ H s) (u:Un (frs X.stack) ch H H' s.heap h') (hok:HOk X.prog X.w H' h') (hg:AllBare g')
  (hch:∀b∈ch,(b∈X.ex\/X.s₀.heap.objs.size<=b)/\b≠X.env.locals/\(∀x c,X.env.cells.lookup x=some c->c≠b)/\∀p∈X.pn++pins,p.1≠b) :
  Inv X pins σ H' { s with heap:=h',gens:=g',drawn:=d',toks:=t' }:=by
 obtain⟨m,⟨o,es,ep,ho,r⟩,_⟩:=id I.loc;obtain⟨sl,hL⟩:=u.any ho I.free fun z=>(hch _ z).2.1 rfl;exact I.step (ch:=ch) hch (fun b o hL hb hc e n=>u.keep b o e n (fun z=>(xaf.mp (I.stkSub b z)).elim hL hb) hc) (fun b o _ _ hc e n=>u.any e n hc) (fun b o hc e n=>u.free b o e n hc) (fun b o hc e=>u.there b o e hc) u.tups u.frzs u.tbls (fun m' hm=>by
  obtain⟨o',es',ep',ho',r'⟩:=hm;rw[ho] at ho';cases ho';exact⟨_,es',ep',hL,r'⟩) hok hg
theorem Inv.turned {t':Nat} {it:Addr} (I:Inv X pins σ H s) (k:∀b o,b≠it->s.heap.get? b=some o->h'.get? b=some o) (hn:H it=none) (hL:it≠X.env.locals)
  (h1:it∈X.ex\/X.s₀.heap.objs.size<=it) (h2:∀x c,X.env.cells.lookup x=some c->c≠it) (h3:∀p∈X.pn++pins,p.1≠it):Inv X pins σ H { s with heap:=h',toks:=t' }:=by
 have nit:∀b u,H b=some u->b≠it:=fun b u e z=>by rw[z,hn] at e;cases e
 refine I.step (g':=s.gens) (d':=s.drawn) (ch:=[it]) (fun b hb=>?_) (fun b o _ _ hc e _=>k b o (fun z=>hc (by simp [z])) e) (fun b o _ _ hc e _=>⟨o.slots,k b o (fun z=>hc (by simp [z])) e⟩) (fun _ _ _ _ n=>n)
  (fun b o hc e=>⟨o,k b o (fun z=>hc (by simp [z])) e⟩) (fun _ _ e=>e) (fun _ _ _ e=>e) (fun b ps e=>⟨#[],by rw[e];simp⟩) (fun m hm=>?_) (fun b u e=>?_) I.bare
 ·have e:b=it:=by simpa using hb
  subst e;exact⟨h1,hL,h2,h3⟩
 ·obtain⟨o,es,ep,ho,r⟩:=hm;exact⟨o,es,ep,k _ o (Ne.symm hL) ho,r⟩
 ·refine (I.hok b u e).stay (fun c v hc q=>k c v ?_ q) (fun _ q=>q) fun _ _ q=>q;rcases hc with z | z
  ·rw[z];exact nit b u e
  ·exact nit c _ z
theorem Inv.tok (I:Inv X pins σ H s) (t:Nat):Inv X pins σ H { s with toks:=t }:=I.un (h':=s.heap) (t':=t) Un.refl I.hok
theorem Inv.kept {t':Nat} (I:Inv X pins σ H s) (k:∀b u,s.heap.get? b=some u->h'.get? b=some u):Inv X pins σ H { s with heap:=h',toks:=t' }:=I.un (Un.kept k) (I.hok.kept k)
theorem Inv.laid {a:Addr} {o:HO} {t':Nat} (I:Inv X pins σ H s) (k:∀b u,s.heap.get? b=some u->h'.get? b=some u) (hp:s.heap.objs.size<=a) (new:ObjOk X.prog X.w (upd H a o) h' a o) :
  Inv X pins σ (upd H a o) { s with heap:=h',toks:=t' }:=I.un (Un.laid k hp (I.hok.fresh hp)) (I.hok.laid k hp new)
theorem Inv.write {x e:Addr} {o:HO} {t':Nat} (I:Inv X pins σ H s) (mu:Mut (H x)) (he:e=x\/H e=some (.own x)) (k:∀b u,b≠e->s.heap.get? b=some u->h'.get? b=some u) (heo:∃u,h'.get? e=some u)
  (new:ObjOk X.prog X.w (upd H x o) h' x o):Inv X pins σ (upd H x o) { s with heap:=h',toks:=t' }:=I.un (Un.write mu he k heo) (I.hok.write mu he k heo new)
theorem Inv.pins_of {pins':List (Addr × Obj)} (I:Inv X pins σ H s) (h:∀p∈pins',s.heap.get? p.1=some p.2/\H p.1=none/\p.1≠X.env.locals/\p.1∉X.fs/\∀v,p.2.data≠.cell v):Inv X pins' σ H s :=
 ⟨I.ok,I.os,I.bare,I.base,I.loc,I.cell,I.free,I.freeC,fun p hp=>(xav.mp hp).elim (fun z=>I.pin p (xaS _ z)) (h p),I.hok,I.len⟩
theorem jex {N:List Str} (hN:N.Nodup) {i j:Nat} {x:Str} (a:N[i]?=some x) (b:N[j]?=some x):i=j:=by
 obtain⟨h1,e1⟩:=xai.mp a;obtain⟨h2,e2⟩:=xai.mp b;exact (List.getElem_inj hN).mp (e1.trans e2.symm)
theorem jeV {M:Model} {A:Around} {E:Value->Shared->Prop} {i:Nat} {x:Str} {v:V} {u:Value} {Q:Unit->Shared->Prop} (I:Inv X pins σ H s) (hN:X.N.Nodup) (hi:X.N[i]?=some x) (hx:Loc X.env.scope x) (r:RelV v u)
  (h:∀s',Inv X pins (σ.set i (some v)) H s'->(∃a,Heap.SameBut a s.heap s'.heap/\(a=X.env.locals\/X.env.cells.lookup x=some a))->Q () s') (hf:X.fn x=true\/X.env.scope.names.lookup x=some .local:=by first | exact .inl rfl | exact .inr rfl | assumption):wpAny M A (storeName X.env x u) Q E s:=by
 obtain⟨m,hn,hl⟩:=id I.loc;have hcls:(X.env.scope.kind==.class||(X.env.scope.kind==.module&&X.env.locals != X.env.globals))=false:=by rw[I.ok.kind];rfl
 have hiσ:i<σ.length:=by rw[I.len];exact (xai.mp hi).1
 have cne:=I.cne;have tracked:∀{a:Addr} {h':Heap},(∃o,s.heap.get? a=some o/\H a=none)->Heap.SameBut a s.heap h'->HOk X.prog X.w H h':=fun {a h'} ha hs b ob e=>by
  obtain⟨_,_,hfree⟩:=ha;refine (I.hok b ob e).stay (fun c w' hc q=>(hs.2 c ?_).trans q) (fun _ q=>q) fun _ _ q=>q;rintro rfl;rcases hc with rfl | hc
  ·rw[hfree] at e;cases e
  ·rw[hfree] at hc;cases hc
 rcases hx with hk | hk
 ·refine wpAny_storeName_local hk hn (fun h' hn' hs=>?_) hcls;obtain⟨oL,_,_,hoL,_⟩:=id hn;refine h _ ⟨I.ok,I.os,I.bare,⟨fun b o e n hb hx=>?_,fun b o e n hb hx=>?_,I.base.free,fun b o e hx=>?_,I.base.tups,I.base.frzs,I.base.tbls⟩,⟨_,hn',fun j y v' e1 e2 e3=>?_⟩,fun y c e=>?_,I.free,I.freeC,fun p hp=>?_,tracked ⟨oL,hoL,I.free⟩ hs,by simpa using I.len⟩ ⟨_,hs,.inl rfl⟩
  ·exact (hs.2 b (xas (xah (Heap.lt_size e) I.ok.above))).trans (I.base.keep b o e n hb hx)
  ·obtain⟨sl,e1⟩:=I.base.slot b o e n hb hx;exact⟨sl,(hs.2 b (xas (xah (Heap.lt_size e) I.ok.above))).trans e1⟩
  ·obtain⟨o',e1⟩:=I.base.there b o e hx;exact⟨o',(hs.2 b (xas (xah (Heap.lt_size e) I.ok.above))).trans e1⟩
  ·by_cases hj:j=i
   ·subst hj;rw[hi] at e1;cases e1;rw[xbg hiσ] at e2;cases e2;exact⟨u,r,.inl ⟨hk,by simp⟩⟩
   ·rw[xbo (Ne.symm hj)] at e2;obtain⟨u',r',q⟩:=hl j y v' e1 e2 e3;refine⟨u',r',?_⟩;rcases q with ⟨k,e⟩ | ⟨k,c,e,z⟩
    ·refine .inl ⟨k,?_⟩;have:y≠x:=fun e=>hj (jex hN e1 (e▸hi));simp [this,e]
    ·exact .inr ⟨k,c,e,z.sameBut hs (cne y c e)⟩
  ·obtain⟨w',z⟩:=I.cell y c e;exact⟨w',z.sameBut hs (cne y c e)⟩
  ·obtain⟨e,n,ne,nf,d⟩:=I.pin p hp;exact⟨(hs.2 p.1 ne).trans e,n,ne,nf,d⟩
 ·have hfn:X.fn x=true:=by
   rcases hf with z | z
   ·exact z
   ·rw[z] at hk;cases hk
  obtain⟨c,hc⟩:=I.ok.has x (.inl hk);obtain⟨w',z⟩:=I.cell x c hc;refine wpAny_storeName_cell I.ok.kind hk hc z (fun h' hc' hs=>?_);obtain⟨oc,hoc,hocd⟩:=id z;refine h { s with heap:=h' } ⟨I.ok,I.os,I.bare,⟨fun b o e n hb hx=>?_,fun b o e n hb hx=>?_,I.base.free,fun b o e hx=>?_,I.base.tups,I.base.frzs,I.base.tbls⟩,⟨m,hn.sameBut hs (Ne.symm (cne x c hc)),fun j y v' e1 e2 e3=>?_⟩,fun y c' e=>?_,I.free,I.freeC,fun p hp=>?_,tracked ⟨oc,hoc,I.freeC x c hc⟩ hs,by simpa using I.len⟩ ⟨c,hs,.inr hc⟩
  ·exact (hs.2 b (xas (xah (Heap.lt_size e) (I.ok.cab x c hfn hc)))).trans (I.base.keep b o e n hb hx)
  ·obtain⟨sl,e1⟩:=I.base.slot b o e n hb hx;exact⟨sl,(hs.2 b (xas (xah (Heap.lt_size e) (I.ok.cab x c hfn hc)))).trans e1⟩
  ·obtain⟨o',e1⟩:=I.base.there b o e hx;exact⟨o',(hs.2 b (xas (xah (Heap.lt_size e) (I.ok.cab x c hfn hc)))).trans e1⟩
  ·by_cases hj:j=i
   ·subst hj;rw[hi] at e1;cases e1;rw[xbg hiσ] at e2;cases e2;exact⟨u,r,.inr ⟨.inl hk,c,hc,hc'⟩⟩
   ·rw[xbo (Ne.symm hj)] at e2;obtain⟨u',r',q⟩:=hl j y v' e1 e2 e3;refine⟨u',r',?_⟩;rcases q with q | ⟨k,c',e,z'⟩
    ·exact .inl q
    ·refine .inr ⟨k,c',e,z'.sameBut hs ?_⟩;rintro rfl;exact hj (jex hN e1 (I.ok.inj _ _ _ e hc▸hi))
  ·by_cases hcc:c'=c
   ·subst hcc;exact⟨_,hc'⟩
   ·obtain⟨w2,z2⟩:=I.cell y c' e;exact⟨w2,z2.sameBut hs hcc⟩
  ·obtain⟨e,n,ne,nf,d⟩:=I.pin p hp;refine⟨(hs.2 p.1 ?_).trans e,n,ne,nf,d⟩;intro q;rw[q,hoc] at e;have q':oc=p.2:=Option.some.inj e;exact d w' (by rw[<- q'];exact hocd)
theorem jcz {M:Model} {A:Around} {E:Value->Shared->Prop} {i:Nat} {x:Str} {v:V} {u:Value} {Q:Unit->Shared->Prop} (I:Inv X pins σ H s) (hN:X.N.Nodup) (hi:X.N[i]?=some x) (hx:Loc X.env.scope x) (r:RelV v u)
  (h:∀s',Inv X pins (σ.set i (some v)) H s'->Q () s') (hf:X.fn x=true\/X.env.scope.names.lookup x=some .local:=by first | exact .inl rfl | exact .inr rfl | assumption):wpAny M A (storeName X.env x u) Q E s :=
 jeV I hN hi hx r (fun s' I' _=>h s' I') hf
theorem Inv.call' {s':Shared} {ch:List Addr} (I:Inv X pins σ H s) (ho:s'.os=s.os) (u:Un (frs X.stack) ch H H' s.heap s'.heap) (hok:HOk X.prog X.w H' s'.heap) (hg:AllBare s'.gens)
  (hch:∀b∈ch,(b∈X.ex\/X.s₀.heap.objs.size<=b)/\b≠X.env.locals/\(∀x c,X.env.cells.lookup x=some c->c≠b)/\∀p∈X.pn++pins,p.1≠b):Inv X pins σ H' s':=by
 obtain⟨h',g',d',t',o'⟩:=s';have e:o'=s.os:=ho;subst e;exact I.call (g':=g') (t':=t') (d':=d') u hok hg hch
end
abbrev XK:=Value->Option Addr->Hp->Prop
abbrev St:=List (Option V)
abbrev VK:=V->Hp->Prop
abbrev TE:=St->Hp->VK->Prop
abbrev TT:=St->Hp->(Bool->Hp->Prop)->Prop
abbrev TA:=St->Hp->(List V->Hp->Prop)->Prop
structure Ends where
 nx:St->Hp->Prop
 rt:VK
 bk:St->Hp->Prop:=fun _ _=>False
 ct:St->Hp->Prop:=fun _ _=>False
abbrev TS:=Ends->St->Hp->Prop
def EP (X:Cx) (pins:List (Addr × Obj)) (σ:St) (Q:VK) (u:Value) (s':Shared):Prop:=∃v H',Inv X pins σ H' s'/\RelV v u/\Q v H'
def TP (X:Cx) (pins:List (Addr × Obj)) (σ:St) (Q:Bool->Hp->Prop) (b:Bool) (s':Shared):Prop:=∃H',Inv X pins σ H' s'/\Q b H'
def AP (X:Cx) (pins:List (Addr × Obj)) (σ:St) (Q:List V->Hp->Prop) (us:List Value) (s':Shared):Prop:=∃vs H',Inv X pins σ H' s'/\Vals vs us/\Q vs H'
def SP (X:Cx) (pins:List (Addr × Obj)) (D:Ends) (f:Flow) (s':Shared):Prop :=
 match f with
 | .next=>∃σ' H',Inv X pins σ' H' s'/\D.nx σ' H'
 | .brk=>∃σ' H',Inv X pins σ' H' s'/\D.bk σ' H'
 | .cont=>∃σ' H',Inv X pins σ' H' s'/\D.ct σ' H'
 | .ret u=>∃v σ' H',Inv X pins σ' H' s'/\RelV v u/\D.rt v H'
def PE (X:Cx) (e:Expr) (t:TE):Prop :=
 ∀(pins:List (Addr × Obj)) (s:Shared) (σ:St) (H:Hp) (Q:VK),Inv X pins σ H s->t σ H Q->wpAny (model X.prog X.w) X.A (eval e X.env) (EP X pins σ Q) X.xe s
def PT (X:Cx) (e:Expr) (t:TT):Prop :=
 ∀(pins:List (Addr × Obj)) (s:Shared) (σ:St) (H:Hp) (Q:Bool->Hp->Prop),Inv X pins σ H s->t σ H Q->wpAny (model X.prog X.w) X.A (isTrue e X.env (eval e X.env)) (TP X pins σ Q) X.xe s
def PW (X:Cx) (e:Expr) (t:TT):Prop :=
 ∀(whole:Sem Value) (pins:List (Addr × Obj)) (s:Shared) (σ:St) (H:Hp) (Q:Bool->Hp->Prop),Inv X pins σ H s->t σ H Q->wpAny (model X.prog X.w) X.A (isTrue e X.env whole) (TP X pins σ Q) X.xe s
theorem PW.pt {X:Cx} {e:Expr} {t:TT} (h:PW X e t):PT X e t:=h _
def PA (X:Cx) (es:List Expr) (t:TA):Prop :=
 ∀(pos:Pos) (pins:List (Addr × Obj)) (s:Shared) (σ:St) (H:Hp) (Q:List V->Hp->Prop),Inv X pins σ H s->t σ H Q->wpAny (model X.prog X.w) X.A (spliced (backTo pos (starEach es X.env))) (AP X pins σ Q) X.xe s
def PS (X:Cx) (st:Stmt) (t:TS):Prop :=
 ∀(pins:List (Addr × Obj)) (s:Shared) (σ:St) (H:Hp) (D:Ends),Inv X pins σ H s->t D σ H->wpAny (model X.prog X.w) X.A (exec st X.env) (SP X pins D) X.xe s
def PSs (X:Cx) (st:List Stmt) (t:TS):Prop :=
 ∀(pins:List (Addr × Obj)) (s:Shared) (σ:St) (H:Hp) (D:Ends),Inv X pins σ H s->t D σ H->wpAny (model X.prog X.w) X.A (execs st X.env) (SP X pins D) X.xe s
theorem thn {α:Type} {t:Sem α} {Q Q':α->Shared->Prop} {M:Model} {A:Around} {E:Value->Shared->Prop} {s:Shared} (h:wpAny M A t Q E s) (hQ:∀a s,Q a s->Q' a s):wpAny M A t Q' E s:=wpAny_mono h hQ fun _ _ x=>x
section
variable {X:Cx}
def jgU (i:Nat):TE:=fun σ H Q=>∃v,σ[i]?=some (some v)/\Q v H
def tC (v:V):TE:=fun _ H Q=>Q v H
theorem jkN {i:Nat} {x:Str} {pos:Pos} (hN:X.N[i]?=some x) (hv:Vis X.env.scope x) (hd:(x==("__debug__":Str))=false:=by decide) (hcd:(x==("__classdict__":Str))=false:=by decide):PE X (.Name x pos) (jgU i):=by
 intro pins s σ H Q I h;obtain⟨v,e,h⟩:=h;obtain⟨m,hn,hl⟩:=I.loc;obtain⟨u,r,l⟩:=hl i x v hN e hv;have fin:EP X pins σ Q u s:=⟨v,H,I,r,h⟩;rcases l with ⟨hk,hm⟩ | ⟨hk,c,hc,hcell⟩
 ·exact wpAny_Name (wpAny_loadName_local I.ok.kind hk hn hm fin) hd
 ·rcases hk with hk | hk
  ·exact wpAny_Name (wpAny_loadName_cell I.ok.kind hk hc hcell fin) hd
  ·exact wpAny_Name (wpAny_loadName_free I.ok.kind hk hc hcell fin hcd) hd
theorem jab {i j pos}:PE X (.Constant (.int i) j pos) (tC (.int i)):=fun _ _ _ H _ I h=>wpAny_Constant_int ⟨.int i,H,I.tok _,⟨_,rfl⟩,h⟩
theorem jbq {b j pos}:PE X (.Constant (.bool b) j pos) (tC (.bl b)):=fun _ _ _ H _ I h=>Constant_bool ⟨.bl b,H,I,rfl,h⟩
theorem jel {j pos}:PE X (.Constant .none j pos) (tC .non):=fun _ _ _ H _ I h=>Constant_none ⟨.non,H,I,rfl,h⟩
theorem ja7 {x j pos}:PE X (.Constant (.str x) j pos) (tC (.str x)):=fun _ _ _ H _ I h=>Calls.Constant_str ⟨.str x,H,I.tok _,⟨_,rfl⟩,h⟩
def Gl (X:Cx) (x:Str):Prop:=X.env.kindOf x=some .globalImplicit
theorem jdf {E:Value->Shared->Prop} {pins:List (Addr × Obj)} {s:Shared} {σ:St} {H:Hp} {x:Str} {u:Value} {pos:Pos} {Q:Value->Shared->Prop} (I:Inv X pins σ H s) (hg:Gl X x) (hm:X.mg x=some u) (h:Q u s)
  (hd:(x==("__debug__":Str))=false:=by decide):wpAny (model X.prog X.w) X.A (eval (.Name x pos) X.env) Q E s :=
 Calls.Name_function_global I.ok.kind hg (Calls.loadGlobal_global (by rw[I.ok.glob];exact I.mod.glob.keeps I.bk) hm h) hd
theorem jdL {E:Value->Shared->Prop} {pins:List (Addr × Obj)} {s:Shared} {σ:St} {H:Hp} {x:Str} {u:Value} {pos:Pos} {Q:Value->Shared->Prop} (I:Inv X pins σ H s) (hg:Gl X x) (hm:X.mg x=none) (hv:bootBuiltins x=some u) (h:Q u s)
  (hn:x≠"__name__":=by decide) (hd:(x==("__debug__":Str))=false:=by decide):wpAny (model X.prog X.w) X.A (eval (.Name x pos) X.env) Q E s:=by
 obtain⟨mb,h1,h2⟩:=I.mod.blt;exact Calls.Name_function_global I.ok.kind hg (Calls.loadGlobal_builtin (by rw[I.ok.glob];exact I.mod.glob.keeps I.bk) hm (by rw[I.ok.blt];exact h1.keeps I.bk) ((h2 x hn).trans hv) h) hd
theorem jce {x:Str} {v:V} {u:Value} {pos:Pos} (hg:Gl X x) (hm:X.mg x=some u) (r:RelV v u) (hd:(x==("__debug__":Str))=false:=by decide):PE X (.Name x pos) (tC v) :=
 fun _ _ _ H _ I h=>jdf I hg hm ⟨v,H,I,r,h⟩ hd
theorem jjD {x:Str} {v:V} {u:Value} {pos:Pos} (hg:Gl X x) (hm:X.mg x=none) (hv:bootBuiltins x=some u) (r:RelV v u) (hn:x≠"__name__":=by decide) (hd:(x==("__debug__":Str))=false:=by decide):PE X (.Name x pos) (tC v) :=
 fun _ _ _ H _ I h=>jdL I hg hm hv ⟨v,H,I,r,h⟩ hn hd
variable {a b:Expr} {ta tb:TE} {pos:Pos}
def tB (t:TE):TT:=fun σ H Q=>t σ H fun x H1=>∃c,x=.bl c/\Q c H1
theorem jcF {e:Expr} {t:TE} (h:PE X e t) (he:∀whole,isTrue e X.env whole=(do let v <- whole;standAt e.pos;holding [v] (truthy v)):=by intro _;rfl):PT X e (tB t):=by
 intro pins s σ H Q I hw;refine isTrue_plain (thn (h pins s σ H _ I hw) fun v s1 ⟨x,H1,I1,r1,q1⟩=>?_) (he _);obtain⟨d,rfl,q⟩:=q1;cases r1;exact wpAny_truthy_bool ⟨H1,I1,q⟩
variable {tA tB':TT} {jbj:List Expr}
def jkO (t u:TT):TT:=fun σ H Q=>t σ H fun c H1=>if c=true then u σ H1 Q else Q false H1
def tOr (t u:TT):TT:=fun σ H Q=>t σ H fun c H1=>if c=true then Q true H1 else u σ H1 Q
def jkP (t:TT):TT:=fun σ H Q=>t σ H fun c H1=>Q (!c) H1
theorem jdg (ha:PT X a tA):PW X (.BoolOp .And [a] pos) tA:=by
 intro wh pins s σ H Q I h;refine isTrue_and (thn (ha pins s σ H Q I h) fun c s1 e=>?_);cases c with
 | true=>exact isTrue_and_nil e
 | false=>exact e
theorem jdu (ha:PT X a tA):PW X (.BoolOp .Or [a] pos) tA:=by
 intro wh pins s σ H Q I h;refine isTrue_or (thn (ha pins s σ H Q I h) fun c s1 e=>?_);cases c with
 | false=>exact isTrue_or_nil e
 | true=>exact e
theorem jdv (ha:PT X a tA) (hb:PW X (.BoolOp .And (b::jbj) pos) tB'):PW X (.BoolOp .And (a::b::jbj) pos) (jkO tA tB'):=by
 intro wh pins s σ H Q I h;refine isTrue_and (thn (ha pins s σ H _ I h) fun c s1 ⟨H1,I1,q1⟩=>?_);cases c with
 | true=>exact hb wh pins s1 σ H1 Q I1 q1
 | false=>exact⟨H1,I1,q1⟩
theorem jeW (ha:PT X a tA) (hb:PW X (.BoolOp .Or (b::jbj) pos) tB'):PW X (.BoolOp .Or (a::b::jbj) pos) (tOr tA tB'):=by
 intro wh pins s σ H Q I h;refine isTrue_or (thn (ha pins s σ H _ I h) fun c s1 ⟨H1,I1,q1⟩=>?_);cases c with
 | true=>exact⟨H1,I1,q1⟩
 | false=>exact hb wh pins s1 σ H1 Q I1 q1
theorem jdw (ha:PT X a tA):PT X (.UnaryOp .Not a pos) (jkP tA):=by
 intro pins s σ H Q I h;exact isTrue_not (ha pins s σ H (fun c H1=>Q (!c) H1) I h)
def jig (ta tb:TE):TE:=fun σ H Q=>ta σ H fun x H1=>∃c,x=.bl c/\if c=true then tb σ H1 Q else Q (.bl false) H1
def tOrV (ta tb:TE):TE:=fun σ H Q=>ta σ H fun x H1=>∃c,x=.bl c/\if c=true then Q (.bl true) H1 else tb σ H1 Q
def jih (ta:TE):TE:=fun σ H Q=>ta σ H fun x H1=>∃c,x=.bl c/\Q (.bl (!c)) H1
end
def SqL (K:PySem.W.Frag) (H:Hp) (a:Addr) (xs:List V):Prop :=
 Rd H a (.lst xs) \/
  ∃(o:Obj) (its:Array Value) (n:Nat),K.lookup a=some o/\o.cls=.type "list"/\o.dict=none/\o.data=.seq its n/\its.size<=sizeLine/\Vals xs its.toList
def SqT (K:PySem.W.Frag) (H:Hp) (a:Addr) (xs:List V):Prop :=
 Rd H a (.tup xs) \/
  ∃(o:Obj) (its:Array Value) (n:Nat),K.lookup a=some o/\o.cls=.type "tuple"/\o.data=.seq its n/\its.size<=sizeLine/\Vals xs its.toList
def absV:Value->Option V
 | .none=>some .non
 | .bool b=>some (.bl b)
 | .int i _=>some (.int i)
 | .str x _=>some (.str x)
 | .bytes b _=>some (.byt b)
 | .float b _=>some (.flt b)
 | .ref a=>some (.ref a)
 | .type n=>some (.ty n)
 | _=>none
theorem RelV.abs {x:V} {u:Value} (r:RelV x u):absV u=some x:=by
 cases x with
 | non=>cases r;rfl
 | bl _=>cases r;rfl
 | int _=>obtain⟨t,rfl⟩:=r;rfl
 | str _=>obtain⟨t,rfl⟩:=r;rfl
 | byt _=>obtain⟨t,rfl⟩:=r;rfl
 | flt _=>obtain⟨t,rfl⟩:=r;rfl
 | ref _=>cases r;rfl
 | ty _=>cases r;rfl
theorem RelV.inj {x y:V} {u:Value} (r:RelV x u) (q:RelV y u):x=y:=Option.some.inj (r.abs.symm.trans q.abs)
theorem Vals.inj:∀{xs ys:List V} {us:List Value},Vals xs us->Vals ys us->xs=ys
 | _,_,_,.nil,.nil=>rfl
 | _,_,_,.cons r t,.cons r' t'=>by rw[r.inj r',Vals.inj t t']
section
variable {X:Cx} {pins:List (Addr × Obj)} {σ:St} {H:Hp} {s:Shared} {a:Addr} {xs ys:List V}
theorem SqL.of {K:PySem.W.Frag} (h:H a=some (.lst xs)):SqL K H a xs:=.inl (.inl h)
theorem SqT.of {K:PySem.W.Frag} (h:H a=some (.tup xs)):SqT K H a xs:=.inl (.inl h)
theorem Inv.list (I:Inv X pins σ H s) (h:SqL X.K H a xs):∃its:List Value,Vals xs its/\PlainL s.heap a its.toArray/\xs.length<=sizeLine:=by
 rcases h with h | ⟨o,its,n,hk,hc,hd,hs,hz,r⟩
 ·obtain⟨z,its,n,r,e⟩:=h.ok I.hok;exact⟨its,r,⟨_,n,e,rfl,rfl,rfl⟩,z⟩
 ·refine⟨its.toList,r,⟨o,n,I.kIn a o hk,hc,hd,by simpa using hs⟩,?_⟩;have e:=r.length;simp only[Array.length_toList] at e;omega
theorem Inv.tuple (I:Inv X pins σ H s) (h:SqT X.K H a xs):∃its:List Value,Vals xs its/\IsTup s.heap a its.toArray/\xs.length<=sizeLine:=by
 rcases h with h | ⟨o,its,n,hk,hc,hs,hz,r⟩
 ·obtain⟨z,its,r,p⟩:=h.ok I.hok;exact⟨its,r,p,z⟩
 ·refine⟨its.toList,r,⟨o,I.kIn a o hk,hc,n,by simpa using hs⟩,?_⟩;have e:=r.length;simp only[Array.length_toList] at e;omega
theorem Inv.list_inj (I:Inv X pins σ H s) (h:SqL X.K H a xs) (h':SqL X.K H a ys):xs=ys:=by
 obtain⟨its,r,⟨o,n,e,_,_,d⟩,_⟩:=I.list h;obtain⟨its',r',⟨o',n',e',_,_,d'⟩,_⟩:=I.list h';rw[e] at e';cases e';rw[d] at d';injection d' with d1 _
 have:its=its':=by simpa using congrArg Array.toList d1
 subst this;exact r.inj r'
theorem Inv.tuple_inj (I:Inv X pins σ H s) (h:SqT X.K H a xs) (h':SqT X.K H a ys):xs=ys:=by
 obtain⟨its,r,⟨o,e,_,n,d⟩,_⟩:=I.tuple h;obtain⟨its',r',⟨o',e',_,n',d'⟩,_⟩:=I.tuple h';rw[e] at e';cases e';rw[d] at d';injection d' with d1 _
 have:its=its':=by simpa using congrArg Array.toList d1
 subst this;exact r.inj r'
end
abbrev Cx.wish (X:Cx) (E:Value->Shared->Prop):Cx:={ X with xe:=E }
abbrev Cx.nox (X:Cx):Cx:=X.wish fun _ _=>False
theorem Cx.Ok.wish {X:Cx} (ok:X.Ok) (E:Value->Shared->Prop):(X.wish E).Ok :=
 ⟨ok.mod,ok.kind,ok.glob,ok.blt,ok.above,ok.inj,ok.has,ok.cab,ok.hd,ok.frames,ok.stk,ok.exf,ok.bs,ok.bsz,ok.noex,ok.exfs,ok.funs,ok.frf⟩
theorem Cx.Ok.unwish {X:Cx} {E:Value->Shared->Prop} (ok:(X.wish E).Ok):X.Ok :=
 ⟨ok.mod,ok.kind,ok.glob,ok.blt,ok.above,ok.inj,ok.has,ok.cab,ok.hd,ok.frames,ok.stk,ok.exf,ok.bs,ok.bsz,ok.noex,ok.exfs,ok.funs,ok.frf⟩
section
variable {X:Cx} {pins:List (Addr × Obj)} {σ:St} {H:Hp} {s:Shared} {E:Value->Shared->Prop}
theorem Inv.wish (I:Inv X pins σ H s) (E:Value->Shared->Prop):Inv (X.wish E) pins σ H s:=⟨I.ok.wish E,I.os,I.bare,I.base,I.loc,I.cell,I.free,I.freeC,I.pin,I.hok,I.len⟩
theorem Inv.unwish (I:Inv (X.wish E) pins σ H s):Inv X pins σ H s:=⟨I.ok.unwish,I.os,I.bare,I.base,I.loc,I.cell,I.free,I.freeC,I.pin,I.hok,I.len⟩
theorem SP.unwish {D:Ends} {f:Flow} {s':Shared} (h:SP (X.wish E) pins D f s'):SP X pins D f s':=by
 cases f with
 | next=>obtain⟨σ',H',I,q⟩:=h;exact⟨σ',H',I.unwish,q⟩
 | brk=>obtain⟨σ',H',I,q⟩:=h;exact⟨σ',H',I.unwish,q⟩
 | cont=>obtain⟨σ',H',I,q⟩:=h;exact⟨σ',H',I.unwish,q⟩
 | ret u=>obtain⟨v,σ',H',I,r,q⟩:=h;exact⟨v,σ',H',I.unwish,r,q⟩
theorem PE.nox {e:Expr} {t:TE} (h:PE X.nox e t):PE X e t:=fun pins s σ H Q I hw =>
 wpAny_mono (h pins s σ H Q (I.wish _) hw) (fun _ _ ⟨v,H',I',r,q⟩=>⟨v,H',I'.unwish,r,q⟩) fun _ _ z=>False.elim z
theorem PT.nox {e:Expr} {t:TT} (h:PT X.nox e t):PT X e t:=fun pins s σ H Q I hw =>
 wpAny_mono (h pins s σ H Q (I.wish _) hw) (fun _ _ ⟨H',I',q⟩=>⟨H',I'.unwish,q⟩) fun _ _ z=>False.elim z
theorem PSs.nox {st:List Stmt} {t:TS} (h:PSs X.nox st t):PSs X st t:=fun pins s σ H D I hw =>
 wpAny_mono (h pins s σ H D (I.wish _) hw) (fun _ _ q=>q.unwish) fun _ _ z=>False.elim z
end
section
variable {X:Cx} {st:Stmt} {jbj:List Stmt} {t u:TS} {e:Expr} {te:TE} {pos:Pos}
def jgv:TS:=fun D σ H=>D.nx σ H
def jjE (t u:TS):TS:=fun D σ H=>t { D with nx:=u D } σ H
theorem jaq:PSs X [] jgv:=fun _ _ σ H _ I h=>wpAny_execs_nil ⟨σ,H,I,h⟩
theorem jad (h1:PS X st t) (h2:PSs X jbj u):PSs X (st::jbj) (jjE t u):=by
  intro pins s σ H D I h;refine wpAny_execs_cons (thn (h1 pins s σ H { D with nx:=u D } I h) fun f s1 q=>?_);cases f with
  | next =>
    obtain⟨σ',H',I',q⟩:=q;exact h2 pins s1 σ' H' D I' q
  | ret v=>exact q
  | brk=>exact q
  | cont=>exact q
theorem jae (h1:PS X st t):PSs X [st] t:=by
 intro pins s σ H D I h;refine wpAny_execs_cons (thn (h1 pins s σ H D I h) fun f s1 q=>?_);cases f with
 | next=>exact wpAny_execs_nil q
 | ret v=>exact q
 | brk=>exact q
 | cont=>exact q
def jfV:TS:=fun D σ H=>D.bk σ H
def jii:TS:=fun D σ H=>D.ct σ H
theorem Inv.quiet {pins:List (Addr × Obj)} {σ:St} {H:Hp} {s:Shared} (I:Inv X pins σ H s):interactive X.env=false:=by simp [interactive,I.ok.kind]
def jgV (te:TE):TS:=fun D σ H=>te σ H fun _ H1=>D.nx σ H1
theorem jbT (he:PE X e te) (hs:swapsWith e none pos.line X.env=pure false:=by rfl):PS X (.Expr e pos) (jgV te):=by
 intro pins s σ H D I h;exact wpAny_Expr_any (thn (he pins s σ H _ I h) fun v s1 ⟨x,H1,I1,r1,q1⟩=>⟨σ,H1,I1,q1⟩) I.quiet hs
def jic (te:TE):TS:=fun D σ H=>te σ H D.rt
theorem jap (he:PE X e te):PS X (.Return (some e) pos) (jic te):=by
 intro pins s σ H D I h;exact wpAny_Return_some (thn (he pins s σ H _ I h) fun v s1 ⟨x,H1,I1,r1,q1⟩=>⟨x,σ,H1,I1,r1,q1⟩)
def jij:TS:=fun D _ H=>D.rt .non H
def jjF (c:TT) (t u:TS):TS:=fun D σ H=>c σ H fun b H1=>if b=true then t D σ H1 else u D σ H1
theorem jaR {c:Expr} {a b:List Stmt} {tc:TT} (hc:PT X c tc) (ha:PSs X a t) (hb:PSs X b u):PS X (.If c a b pos) (jjF tc t u):=by
 intro pins s σ H D I h;refine wpAny_If (thn (hc pins s σ H _ I h) fun d s1 ⟨H1,I1,q1⟩=>?_);cases d with
 | true=>exact ha pins s1 σ H1 D I1 q1
 | false=>exact hb pins s1 σ H1 D I1 q1
def jkQ:TS:=fun _ _ _=>False
theorem jeX {sts:List Stmt}:PSs X sts jkQ:=fun _ _ _ _ _ _ h=>h.elim
end
abbrev TG:=V->St->Hp->(St->Hp->Prop)->Prop
abbrev TGs:=List V->St->Hp->(St->Hp->Prop)->Prop
def PG (X:Cx) (target:Expr) (t:TG):Prop :=
  ∀ (pins : List (Addr × Obj)) (s : Shared) (σ : St) (H : Hp) (v : V) (u : Value) (Q : St -> Hp -> Prop), Inv X pins σ H s -> RelV v u -> t v σ H Q ->
    wpAny (model X.prog X.w) X.A (assign target X.env u) (fun _ s'=>∃σ' H',Inv X pins σ' H' s'/\Q σ' H') X.xe s
def PGs (X:Cx) (ts:List Expr) (t:TGs):Prop :=
  ∀ (pins : List (Addr × Obj)) (s : Shared) (σ : St) (H : Hp) (vs : List V) (us : List Value) (Q : St -> Hp -> Prop), Inv X pins σ H s -> Vals vs us -> t vs σ H Q ->
    wpAny (model X.prog X.w) X.A (assignInOrder ((assignEach ts X.env).map (·.2)) us) (fun _ s'=>∃σ' H',Inv X pins σ' H' s'/\Q σ' H') X.xe s
section
variable {X:Cx} {pos:Pos}
def jbL (i:Nat):TG:=fun v σ H Q=>Q (σ.set i (some v)) H
theorem jax {i:Nat} {x:Str} (hN:X.N.Nodup) (hi:X.N[i]?=some x) (hx:Loc X.env.scope x) (hf:X.fn x=true\/X.env.scope.names.lookup x=some .local:=by first | exact .inl rfl | exact .inr rfl | assumption):PG X (.Name x pos) (jbL i):=by
 intro pins s σ H v u Q I r h;exact wpAny_assign_Name (jcz I hN hi hx r (fun s' I'=>⟨_,H,I',h⟩) hf)
def jjG:TGs:=fun vs σ H Q=>vs=[]/\Q σ H
def jey (t:TG) (u:TGs):TGs:=fun vs σ H Q=>∃v r,vs=v::r/\t v σ H fun σ' H'=>u r σ' H' Q
theorem jdh:PGs X [] jjG:=by
 intro pins s σ H vs us Q I r h;obtain⟨e,h⟩:=h;subst e;cases r;exact assignInOrder_nil ⟨σ,H,I,h⟩
theorem jbd {e:Expr} {es:List Expr} {t:TG} {u:TGs} (h1:PG X e t) (h2:PGs X es u)
    (hs:(assignEach (e::es) X.env).map (·.2)=assign e X.env::(assignEach es X.env).map (·.2):=by rfl):PGs X (e::es) (jey t u):=by
  intro pins s σ H vs us Q I r h;obtain⟨v,vr,e1,h⟩:=h;subst e1;cases r with
  | cons r rr =>
    rw[hs];refine assignInOrder_cons (thn (h1 pins s σ H _ _ _ I r h) fun _ s1 ⟨σ1,H1,I1,q1⟩=>?_);exact h2 pins s1 σ1 H1 _ _ Q I1 rr q1
def ji7 (K:PySem.W.Frag) (n:Nat) (t:TGs):TG:=fun v σ H Q=>∃a xs,v=.ref a/\SqT K H a xs/\xs.length=n/\t xs σ H Q
theorem jfW {es:List Expr} {k:Nat} {t:TGs} {n:Nat} (hc:X.calm=true) (h:PGs X es t)
  (hn:(assignEach es X.env).length=n:=by rfl) (hst:(assignEach es X.env).findIdx? (·.1)=none:=by rfl):PG X (.Tuple es k pos) (ji7 X.K n t):=by
 intro pins s σ H v u Q I r hw;obtain⟨a,xs,e1,hq,hl,hw⟩:=hw;subst e1;cases r;obtain⟨its,rv,ht,hz⟩:=I.tuple hq;refine assign_Tuple_tuple (I.ok.hd hc) ht (by simp [hn,<- hl,rv.length]) hst fun h' hx=>?_;have I1:Inv X pins σ H { s with heap:=h' }:=I.kept (t':=s.toks) fun b o e=>hx b o (xas (Heap.lt_size e)) e;exact h pins _ σ H xs _ Q I1 (by simpa using rv) hw
def jjH (te:TE) (g:TG):TS:=fun D σ H=>te σ H fun x H1=>g x σ H1 D.nx
theorem jgW {tg e:Expr} {te:TE} {g:TG} (he:PE X e te) (hg:PG X tg g) (hs:swapsWithSole [tg] e pos.line X.env=pure false:=by rfl) (hw:swappedStores [tg] e X.env=pure none:=by rfl)
  (h1:(assignEach [tg] X.env).map (·.2)=[assign tg X.env]:=by rfl):PS X (.Assign [tg] e pos) (jjH te g):=by
 intro pins s σ H D I h;refine wpAny_Assign_stores (thn (he pins s σ H _ I h) fun v s1 ⟨x,H1,I1,r1,q1⟩=>?_) hs hw;rw[h1];exact thn (hg pins s1 σ H1 x v _ I1 r1 q1) fun _ s2 q=>q
theorem jal {i:Nat} {x:Str} {e:Expr} {te:TE} {pos':Pos} (hN:X.N.Nodup) (hi:X.N[i]?=some x) (hx:Loc X.env.scope x) (he:PE X e te) (hs:swapsWith e (some (.Name x pos')) pos.line X.env=pure false:=by rfl) (hf:X.fn x=true\/X.env.scope.names.lookup x=some .local:=by first | exact .inl rfl | exact .inr rfl | assumption) :
  PS X (.Assign [.Name x pos'] e pos) (jjH te (jbL i)):=by
 intro pins s σ H D I h;refine wpAny_Assign_Name (thn (he pins s σ H _ I h) fun v s1 ⟨y,H1,I1,r1,q1⟩=>?_) hs;exact jcz I1 hN hi hx r1 (fun s2 I2=>⟨_,H1,I2,q1⟩) hf
def jkR (i j:Nat) (ta:TA):TS:=fun D σ H=>ta σ H fun vs H1=>∃v w,vs=[v,w]/\D.nx ((σ.set i (some v)).set j (some w)) H1
theorem jkS {i j:Nat} {x y:Str} {a b:Expr} {ta:TA} {px py pt:Pos} {kt k2 pt2} (hc:X.calm=true) (hN:X.N.Nodup) (hi:X.N[i]?=some x) (hj:X.N[j]?=some y) (hij:i≠j)
    (hx:X.env.scope.names.lookup x=some .local) (hy:X.env.scope.names.lookup y=some .local) (ha:PA X [a,b] ta)
    (hw:swappedStores [.Tuple [.Name x px,.Name y py] kt pt] (.Tuple [a,b] k2 pt2) X.env=pure (some [x,y]))
    (hs:swapsWithSole [.Tuple [.Name x px,.Name y py] kt pt] (.Tuple [a,b] k2 pt2) pos.line X.env=pure false:=by rfl) :
    PS X (.Assign [.Tuple [.Name x px,.Name y py] kt pt] (.Tuple [a,b] k2 pt2) pos) (jkR i j ta):=by
  intro pins s σ H D I h;rw[exec_Assign_arm];refine wpAny_bind (wpAny_standAt ?_);rw[hs];refine wpAny_bind (wpAny_pure ?_);rw[if_neg (by decide)];refine wpAny_bind (Tuple_ (thn (ha _ pins s σ H _ I h) fun us s1 ⟨vs,H1,I1,r1,q1⟩=>?_));obtain⟨v,w,e1,q1⟩:=q1;subst e1;obtain⟨u1,u2,rfl,rv,rw'⟩:∃u1 u2,us=[u1,u2]/\RelV v u1/\RelV w u2:=by
    cases r1 with
    | cons p q =>
      cases q with
      | cons p' q' =>
        cases q';exact⟨_,_,rfl,p,p'⟩
  refine wpAny_newObj_type ?_ (by show 2<=sizeLine;decide);have I2:Inv X pins σ H1 { s1 with heap:=s1.heap.push { cls:=.type "tuple",data:=.seq [u1,u2].toArray } }:=I1.kept (t':=s1.toks) fun b o e=>Heap.get?_push_of_some _ e;rw[hw];refine wpAny_bind (wpAny_pure ?_);show wpAny (model X.prog X.w) X.A (do rule "assign.swapped-stores";let items <- unpackItems (.ref s1.heap.objs.size) 2 none;assignInOrder [fun v=>bindName X.env y v,fun v=>bindName X.env x v] items.reverse;pure Flow.next) _ _ _;refine wpAny_bind (wpAny_rule (wpAny_bind (unpackItems_tuple (items:=#[u1,u2]) (I.ok.hd hc) (IsTup.new s1.heap _) fun h' hx'=>?_)));have I3:=I2.kept (h':=h') (t':=s1.toks) fun b o e=>hx' b o (xas (Heap.lt_size e)) e;show wpAny _ _ (assignInOrder [fun v=>bindName X.env y v,fun v=>bindName X.env x v] [u2,u1] >>= fun _=>pure Flow.next) _ _ _;refine wpAny_bind (assignInOrder_cons (wpAny_bindName (jcz I3 hN hj (.inl hy) rw' (fun s2 I4=>?_) (.inr hy))));refine assignInOrder_cons (wpAny_bindName (jcz I4 hN hi (.inl hx) rv (fun s3 I5=>assignInOrder_nil (wpAny_pure ?_)) (.inr hx)));rw[List.set_comm _ _ (Ne.symm hij)] at I5;exact⟨_,H1,I5,q1⟩
def jkT (c:TT) (tb:TS):TS:=fun D σ H=>∃W:Nat->St->Hp->Prop,(∃m,W m σ H)/\∀m σ H,W m σ H ->
 c σ H fun b H1=>if b=true then ∃N:St->Hp->Prop,(∀σ' H',N σ' H'->∃m',m'<m/\W m' σ' H')/\tb { D with nx:=N,ct:=N,bk:=D.nx } σ H1 else D.nx σ H1
theorem jez {c:Expr} {body:List Stmt} {tc:TT} {tb:TS} (hp:PassesOwn (model X.prog X.w) X.A X.env X.xe) (hc:PT X c tc) (hb:PSs X body tb):PS X (.While c body [] pos) (jkT tc tb):=by
  intro pins s σ H D I h;obtain⟨W,⟨m0,w0⟩,turn⟩:=h;refine wpAny_While (codeAny_whileLoop (fun n s'=>∃σ' H',Inv X pins σ' H' s'/\W n σ' H') ?_ m0 ⟨σ,H,I,w0⟩);rintro n s1 ⟨σ1,H1,I1,w1⟩;refine wpAny_passesOwn hp (thn (hc pins s1 σ1 H1 _ I1 (turn n σ1 H1 w1)) fun b s2 ⟨H2,I2,q2⟩=>?_);cases b with
  | true =>
    obtain⟨N,hN,q2⟩:=q2;rw[if_pos rfl];refine wpAny_passesOwn hp (thn (hb pins s2 σ1 H2 _ I2 q2) fun f s3 q3=>?_);cases f with
    | next =>
      obtain⟨σ3,H3,I3,n3⟩:=q3;obtain⟨m',hm,w3⟩:=hN σ3 H3 n3;exact⟨m',hm,σ3,H3,I3,w3⟩
    | cont =>
      obtain⟨σ3,H3,I3,n3⟩:=q3;obtain⟨m',hm,w3⟩:=hN σ3 H3 n3;exact⟨m',hm,σ3,H3,I3,w3⟩
    | brk=>exact q3
    | ret v=>exact q3
  | false =>
    rw[if_neg xan];exact wpAny_execs_nil ⟨σ1,H2,I2,q2⟩
end
structure It where
 go:Nat->Hp->Prop
 yld:Nat->Hp->V->Hp->Prop
 stop:Nat->Hp->Prop
def jfX (X:Cx) (pins:List (Addr × Obj)) (H:Hp) (b:Addr):Prop :=
 H b=none/\b≠X.env.locals/\b∉X.fs/\(b∈X.ex\/X.s₀.heap.objs.size<=b)/\(∀x c,X.env.cells.lookup x=some c->c≠b)/\∀p∈X.pn++pins,p.1≠b
theorem Inv.fpOk {X:Cx} {pins:List (Addr × Obj)} {σ:St} {H H':Hp} {s:Shared} {b:Addr} (I:Inv X pins σ H s) (hb:s.heap.objs.size<=b) (hn:H' b=none):jfX X pins H' b:=by
 refine⟨hn,Nat.ne_of_gt (xah I.lt hb),I.nofs hb,.inr (xaw I.sz hb),fun x c e z=>?_,fun p hp z=>?_⟩
 ·obtain⟨v,q⟩:=I.cell x c e;exact absurd (xah q.lt (by rw[z];exact hb)) (xaM _)
 ·exact absurd (xah (Heap.lt_size (I.pin p hp).1) (by rw[z];exact hb)) (xaM _)
structure Turn (P:Program) (w:World) (K:PySem.W.Frag) (tg:Expr) (J:It) (fp:List Addr) (it:Addr) (tn:Nat->Heap->Prop):Prop where
 mem:it∈fp
 obj:∀i h,tn i h->∀b∈fp,∃o,h.get? b=some o/\∀v,o.data≠.cell v
 keep:∀i h h',tn i h->(∀b∈fp,∀o,h.get? b=some o->h'.get? b=some o)->tn i h'
 item:∀(X:Cx),X.prog=P->X.w=w->X.K=K->X.calm=true->∀(i:Nat) (pins:List (Addr × Obj)) (s:Shared) (σ:St) (H:Hp) (E:Value->Shared->Prop),Inv X pins σ H s->(∀b∈fp,jfX X pins H b)->tn i s.heap->J.go i H ->
  wpAny (model P w) X.A (pyNext (.ref it)) (fun r s1=>∃u,r=some u /\
   wpAny (model P w) X.A (letOwnedTupleGo tg (.ref it) u) (fun _ s2=>∃x H',Inv X pins σ H' s2/\RelV x u/\J.yld i H x H'/\tn (i+1) s2.heap/\∀b∈fp,H' b=none) E s1) E s
 done:∀(X:Cx),X.prog=P->X.w=w->X.K=K->X.calm=true->∀(i:Nat) (pins:List (Addr × Obj)) (s:Shared) (σ:St) (H:Hp) (E:Value->Shared->Prop),Inv X pins σ H s->(∀b∈fp,jfX X pins H b)->tn i s.heap->J.stop i H ->
  wpAny (model P w) X.A (pyNext (.ref it)) (fun r s1=>r=none/\Inv X pins σ H s1) E s
 self:∀(A:Around) (i:Nat) (s:Shared) (Q:Value->Shared->Prop) (E:Value->Shared->Prop),tn i s.heap->Q (.ref it) s->wpAny (model P w) A (pyIter (.ref it)) Q E s
abbrev TI:=St->Hp->(It->Hp->Prop)->Prop
def PIE (X:Cx) (pins:List (Addr × Obj)) (σ:St) (tg:Expr) (R:It->Hp->Prop) (itv:Value) (s2:Shared):Prop :=
 ∃(it:Addr) (fp:List Addr) (tn:Nat->Heap->Prop) (J:It) (H':Hp),itv=.ref it/\Inv X pins σ H' s2/\Turn X.prog X.w X.K tg J fp it tn/\tn 0 s2.heap/\(∀b∈fp,jfX X pins H' b)/\R J H'
def PI (X:Cx) (tg iter:Expr) (wi:TI):Prop :=
  ∀ (pins : List (Addr × Obj)) (s : Shared) (σ : St) (H : Hp) (R : It -> Hp -> Prop), Inv X pins σ H s -> wi σ H R ->
    wpAny (model X.prog X.w) X.A (eval iter X.env) (fun v s1=>wpAny (model X.prog X.w) X.A (pyIter v) (PIE X pins σ tg R) X.xe s1) X.xe s
theorem jik {M:Model} {A:Around} {E:Value->Shared->Prop} {s:Shared} {tg:Expr} {it:Addr} {u:Value} {o:Obj} {n:String} {vs:Array Value} {Q:Unit->Shared->Prop} (ho:s.heap.get? it=some o) (hc:o.cls=.type n) (hd:o.data=.fields vs)
    (hn:["enumerate","zip","dict_itemiterator","dict_reverseitemiterator","odict_iterator","itertools.zip_longest","itertools.pairwise"].contains n=false) (hQ:Q () s):wpAny M A (letOwnedTupleGo tg (.ref it) u) Q E s:=by
  unfold letOwnedTupleGo;cases tg<;>first
    | exact wpAny_pure hQ
    | (cases u<;>first
        | exact wpAny_pure hQ
        | (refine wpAny_bind (wpAny_load ho ?_)
           rw[hc,hd];show wpAny M A (if (["enumerate","zip","dict_itemiterator","dict_reverseitemiterator","odict_iterator","itertools.zip_longest","itertools.pairwise"].contains n&&vs[0]?==some (rawInt _))=true then _ else _) Q E s;rw[if_neg (by intro h;rw[hn,Bool.false_and] at h;cases h)];exact wpAny_pure hQ))
def Itl (K:PySem.W.Frag) (a:Addr):It :=
 ⟨fun i H=>∃xs x,SqL K H a xs/\xs[i]?=some x,fun i H x H'=>H'=H/\∀xs,SqL K H a xs->xs[i]?=some x,fun i H=>∃xs,SqL K H a xs/\xs.length<=i⟩
def Itt (K:PySem.W.Frag) (a:Addr):It :=
 ⟨fun i H=>∃xs x,SqT K H a xs/\xs[i]?=some x,fun i H x H'=>H'=H/\∀xs,SqT K H a xs->xs[i]?=some x,fun i H=>∃xs,SqT K H a xs/\xs.length<=i⟩
def Itr (lo:Int) (n:Nat):It:=⟨fun i _=>i<n,fun i H x H'=>H'=H/\x=.int (lo+i),fun i _=>n<=i⟩
theorem jgX {P:Program} {w:World} {K:PySem.W.Frag} {tg:Expr} (a it:Addr):Turn P w K tg (Itl K a) [it] it (fun i h=>h.IsListIter it a i) where
 mem:=by simp
 obj:=fun i h st b hb=>by
  have e:b=it:=by simpa using hb
  subst e;obtain⟨o,e,c,d⟩:=st;exact⟨o,e,fun v z=>by rw[d] at z;cases z⟩
 keep:=fun i h h' st k=>st.at fun o e=>k it (by simp) o e
 item:=by
  intro X hP hw hK hc i pins s σ H E I hf st hg;subst hP hw hK;obtain⟨xs,x,hq,hx⟩:=hg;obtain⟨its,rv,p,hz⟩:=I.list hq;obtain⟨u,hu,ru⟩:=rv.get hx;obtain⟨f0,f1,f2,f3,f4,f5⟩:=hf it (by simp);refine wpAny_pyNext_list_item st p.isList (x:=u) (by simpa using hu) fun h' st' sb=>?_;have I1:Inv X pins σ H { s with heap:=h' }:=I.turned (t':=s.toks) (fun b o hb e=>(sb.2 b hb).trans e) f0 f1 f3 f4 f5;obtain⟨o,e,c,d⟩:=id st';exact⟨u,rfl,jik (s:={ s with heap:=h' }) e c d (by decide) ⟨x,H,I1,ru,⟨rfl,fun ys hy=>by rw[I.list_inj hy hq];exact hx⟩,st',fun b hb=>(hf b hb).1⟩⟩
 done:=by
  intro X hP hw hK hc i pins s σ H E I hf st hg;subst hP hw hK;obtain⟨xs,hq,hx⟩:=hg;obtain⟨its,rv,p,hz⟩:=I.list hq;obtain⟨f0,f1,f2,f3,f4,f5⟩:=hf it (by simp);have hl:=rv.length;exact wpAny_pyNext_list_end (I.ok.hd hc) st p.isList (by simp;omega) fun h' eb=>⟨rfl,I.turned (t':=s.toks) (fun b o hb e=>eb b o hb e) f0 f1 f3 f4 f5⟩
 self:=fun _ _ _ _ _ st h=>wpAny_pyIter_listiter st h
theorem jgw {P:Program} {w:World} {K:PySem.W.Frag} {tg:Expr} (a it:Addr):Turn P w K tg (Itt K a) [it] it (fun i h=>h.IsTupleIter it a i) where
 mem:=by simp
 obj:=fun i h st b hb=>by
  have e:b=it:=by simpa using hb
  subst e;obtain⟨o,e,c,d⟩:=st;exact⟨o,e,fun v z=>by rw[d] at z;cases z⟩
 keep:=fun i h h' st k=>st.at fun o e=>k it (by simp) o e
 item:=by
  intro X hP hw hK hc i pins s σ H E I hf st hg;subst hP hw hK;obtain⟨xs,x,hq,hx⟩:=hg;obtain⟨its,rv,p,hz⟩:=I.tuple hq;obtain⟨u,hu,ru⟩:=rv.get hx;obtain⟨f0,f1,f2,f3,f4,f5⟩:=hf it (by simp);refine wpAny_pyNext_tuple_item st (show s.heap.IsTuple a its.toArray from p) (x:=u) (by simpa using hu) fun h' st' sb=>?_;have I1:Inv X pins σ H { s with heap:=h' }:=I.turned (t':=s.toks) (fun b o hb e=>(sb.2 b hb).trans e) f0 f1 f3 f4 f5;obtain⟨o,e,c,d⟩:=id st';exact⟨u,rfl,jik (s:={ s with heap:=h' }) e c d (by decide) ⟨x,H,I1,ru,⟨rfl,fun ys hy=>by rw[I.tuple_inj hy hq];exact hx⟩,st',fun b hb=>(hf b hb).1⟩⟩
 done:=by
  intro X hP hw hK hc i pins s σ H E I hf st hg;subst hP hw hK;obtain⟨xs,hq,hx⟩:=hg;obtain⟨its,rv,p,hz⟩:=I.tuple hq;obtain⟨f0,f1,f2,f3,f4,f5⟩:=hf it (by simp);have hl:=rv.length;exact wpAny_pyNext_tuple_end (I.ok.hd hc) st (show s.heap.IsTuple a its.toArray from p) (by simp;omega) fun h' eb=>⟨rfl,I.turned (t':=s.toks) (fun b o hb e=>eb b o hb e) f0 f1 f3 f4 f5⟩
 self:=fun _ _ _ _ _ st h=>wpAny_pyIter_tupleiter st h
theorem jgx {P:Program} {w:World} {K:PySem.W.Frag} {tg:Expr} (it:Addr) (lo:Int) (n:Nat):Turn P w K tg (Itr lo n) [it] it (fun i h=>IsRangeIter h it (lo+(i:Nat)*1) ((n:Int)-(i:Nat)) 1) where
 mem:=by simp
 obj:=fun i h st b hb=>by
  have e:b=it:=by simpa using hb
  subst e;exact⟨_,st,fun v z=>by
   have z':Data.fields _=Data.cell v:=z;cases z'⟩
 keep:=fun i h h' st k=>k it (by simp) _ st
 item:=by
  intro X hP hw hK hc i pins s σ H E I hf st hg;subst hP hw hK;obtain⟨f0,f1,f2,f3,f4,f5⟩:=hf it (by simp);have W:=Walks.range (prog:=X.prog) (w:=X.w) (I.ok.hd hc) it lo 1 n;refine W.item i s _ _ hg st fun v h' tk hv st' kk=>?_;obtain⟨t,rfl⟩:=hv;have I1:Inv X pins σ H { s with heap:=h',toks:=tk }:=I.turned (fun b o hb e=>kk b o (by simpa using hb) e) f0 f1 f3 f4 f5;refine⟨_,rfl,jik (s:={ s with heap:=h',toks:=tk }) (n:="range_iterator") st' rfl rfl (by decide) ⟨.int (lo+i),H,I1,⟨t,?_⟩,⟨rfl,rfl⟩,st',fun b hb=>(hf b hb).1⟩⟩;rw[Int.mul_one]
 done:=by
  intro X hP hw hK hc i pins s σ H E I hf st hg;subst hP hw hK;obtain⟨f0,f1,f2,f3,f4,f5⟩:=hf it (by simp);exact wpAny_pyNext_range_end (I.ok.hd hc) st (by have:n<=i:=hg;omega) fun h' eb=>⟨rfl,I.turned (t':=s.toks) (fun b o hb e=>eb b o hb e) f0 f1 f3 f4 f5⟩
 self:=fun _ _ _ _ _ st h=>wpAny_pyIter_rangeiter st h
section
variable {X:Cx} {tg:Expr}
def jil (K:PySem.W.Frag) (tl:TE):TI:=fun σ H R=>tl σ H fun x H1=>∃a,x=.ref a/\(∃xs,SqL K H1 a xs)/\R (Itl K a) H1
def iTup (K:PySem.W.Frag) (tl:TE):TI:=fun σ H R=>tl σ H fun x H1=>∃a,x=.ref a/\(∃xs,SqT K H1 a xs)/\R (Itt K a) H1
theorem jcP {l:Expr} {tl:TE} (hl:PE X l tl):PI X tg l (jil X.K tl):=by
 intro pins s σ H R I h;refine thn (hl pins s σ H _ I h) fun v s1 ⟨x,H1,I1,r1,q1⟩=>?_;obtain⟨a,e,⟨xs,hq⟩,q⟩:=q1;subst e;cases r1;obtain⟨its,rv,p,hz⟩:=I1.list hq;refine wpAny_pyIter_list p.isList ?_;refine⟨s1.heap.objs.size,[s1.heap.objs.size],_,_,H1,rfl,I1.kept (t':=s1.toks) fun b o e=>Heap.get?_push_of_some _ e,jgX a _,⟨_,Heap.get?_push_size _ rfl,rfl,rfl⟩,fun b hb=>?_,q⟩;have e:b=s1.heap.objs.size:=by simpa using hb
 subst e;exact I1.fpOk (xac _) (I1.hok.fresh (xac _))
theorem jfY {l:Expr} {tl:TE} (hl:PE X l tl):PI X tg l (iTup X.K tl):=by
 intro pins s σ H R I h;refine thn (hl pins s σ H _ I h) fun v s1 ⟨x,H1,I1,r1,q1⟩=>?_;obtain⟨a,e,⟨xs,hq⟩,q⟩:=q1;subst e;cases r1;obtain⟨its,rv,p,hz⟩:=I1.tuple hq;refine wpAny_pyIter_tuple (show s1.heap.IsTuple a its.toArray from p) ?_;refine⟨s1.heap.objs.size,[s1.heap.objs.size],_,_,H1,rfl,I1.kept (t':=s1.toks) fun b o e=>Heap.get?_push_of_some _ e,jgw a _,⟨_,Heap.get?_push_size _ rfl,rfl,rfl⟩,fun b hb=>?_,q⟩;have e:b=s1.heap.objs.size:=by simpa using hb
 subst e;exact I1.fpOk (xac _) (I1.hok.fresh (xac _))
theorem jfZ {pins:List (Addr × Obj)} {σ:St} {H:Hp} {s:Shared} {R:It->Hp->Prop} {E:Value->Shared->Prop} {lo hi:Int} {t u v:Tok} {tk:Nat} (I:Inv X pins σ H s) (h1:-(2^62)<=lo) (h2:lo<2^62) (h3:-(2^62)<=hi) (h4:hi<2^62)
  (q:R (Itr lo (hi-lo).toNat) H):wpAny (model X.prog X.w) X.A (pyIter (.ref s.heap.objs.size)) (PIE X pins σ tg R) E { s with heap:=s.heap.push { cls:=.type "range",data:=.fields #[.int lo t,.int hi u,.int 1 v] },toks:=tk }:=by
 refine wpAny_pyIter_range (IsRange.new ..) (small_one h1 h2 h3 h4) ?_;have I1:Inv X pins σ H { s with heap:=s.heap.push { cls:=.type "range",data:=.fields #[.int lo t,.int hi u,.int 1 v] },toks:=tk }:=I.kept fun b o e=>Heap.get?_push_of_some _ e;refine⟨(s.heap.push { cls:=.type "range",data:=.fields #[.int lo t,.int hi u,.int 1 v] }).objs.size,[(s.heap.push { cls:=.type "range",data:=.fields #[.int lo t,.int hi u,.int 1 v] }).objs.size],_,_,H,rfl,
  I1.kept (t':=tk) fun b o e=>Heap.get?_push_of_some _ e,jgx _ lo (hi-lo).toNat,?_,fun b hb=>?_,q⟩
 ·have e1:lo+((0:Nat):Int)*1=lo:=by simp
  have e2:(((hi-lo).toNat:Nat):Int)-((0:Nat):Int)=Builtin.Range.rangeSize lo hi 1:=by rw[rangeSize_one];split<;>omega
  show IsRangeIter _ _ (lo+((0:Nat):Int)*1) ((((hi-lo).toNat:Nat):Int)-((0:Nat):Int)) 1;rw[e1,e2];exact Heap.get?_push_size _ rfl
 ·have e:b=(s.heap.push { cls:=.type "range",data:=.fields #[.int lo t,.int hi u,.int 1 v] }).objs.size:=by simpa using hb
  subst e;exact I1.fpOk (xac _) (I1.hok.fresh (xac _))
def jjI (ta:TA):TI:=fun σ H R=>ta σ H fun vs H1=>∃j:Int,vs=[.int j]/\-(2^62)<=j/\j<2^62/\R (Itr 0 j.toNat) H1
def jjJ (ta:TA):TI:=fun σ H R=>ta σ H fun vs H1=>∃i j:Int,vs=[.int i,.int j]/\(-(2^62)<=i/\i<2^62/\-(2^62)<=j/\j<2^62)/\R (Itr i (j-i).toNat) H1
theorem jaE {a:Expr} {ta:TA} {p pos:Pos} (hg:Gl X "range") (hm:X.mg "range"=none) (ha:PA X [a] ta) (hs:starEach [a] X.env=[(false,eval a X.env)]:=by rfl):PI X tg (.Call (.Name "range" p) [a] [] pos) (jjI ta):=by
  intro pins s σ H R I h;refine Call_ (jdL I hg hm boot_range (PyProof.Rows.callWith_type1 (thn (ha pos pins s σ H _ I h) fun us s1 ⟨vs,H1,I1,r1,q1⟩=>?_) hs rfl));obtain⟨j,e,q1,q2,q⟩:=q1;subst e;cases r1 with
  | cons r rr =>
    cases rr;obtain⟨t,rfl⟩:=r;exact call_range_1 (jfZ I1 (by omega) (by omega) q1 q2 (by simpa using q))
theorem jeY {a b:Expr} {ta:TA} {p pos:Pos} (hg:Gl X "range") (hm:X.mg "range"=none) (ha:PA X [a,b] ta) (hs:starEach [a,b] X.env=[(false,eval a X.env),(false,eval b X.env)]:=by rfl) (hs2:starEach [b] X.env=[(false,eval b X.env)]:=by rfl) :
    PI X tg (.Call (.Name "range" p) [a,b] [] pos) (jjJ ta):=by
  intro pins s σ H R I h;refine Call_ (jdL I hg hm boot_range (PyProof.Rows.callWith_type1 (thn (ha pos pins s σ H _ I h) fun us s1 ⟨vs,H1,I1,r1,q1⟩=>?_) (by rw[hs,hs2]) (by rw[hs2];rfl)));obtain⟨i,j,e,⟨q1,q2,q3,q4⟩,q⟩:=q1;subst e;cases r1 with
  | cons r rr =>
    cases rr with
    | cons r' rr =>
      cases rr;obtain⟨t,rfl⟩:=r;obtain⟨t',rfl⟩:=r';exact call_range_2 (jfZ I1 q1 q2 q3 q4 q)
def jjK (wi:TI) (g:TG) (tb:TS):TS:=fun D σ H=>wi σ H fun J H1=>∃W:Nat->Nat->St->Hp->Prop,(∃m,W 0 m σ H1)/\∀i m σ H,W i m σ H ->
 (J.stop i H/\D.nx σ H)\/(J.go i H/\∃N:St->Hp->Prop,(∀σ' H',N σ' H'->∃m',m'<m/\W (i+1) m' σ' H')/\∀x H',J.yld i H x H'->g x σ H' fun σ2 H2=>tb { D with nx:=N,ct:=N,bk:=D.nx } σ2 H2)
def jeZ (fp:List Addr) (h:Heap):List (Addr × Obj):=fp.filterMap fun b=>(h.get? b).map fun o=>(b,o)
theorem jcA {fp:List Addr} {h:Heap} {b:Addr} {o:Obj} (hb:b∈fp) (e:h.get? b=some o):(b,o)∈jeZ fp h:=xbu.mpr ⟨b,hb,by rw[e];rfl⟩
theorem jgY {fp:List Addr} {h:Heap} {p:Addr × Obj} (hp:p∈jeZ fp h):p.1∈fp/\h.get? p.1=some p.2:=by
  obtain⟨b,hb,e⟩:=xbu.mp hp;cases q:h.get? b with
  | none=>rw[q] at e;cases e
  | some o =>
    rw[q] at e;have e':(b,o)=p:=Option.some.inj e;subst e';exact⟨hb,q⟩
theorem Inv.pinned {pins:List (Addr × Obj)} {σ:St} {H:Hp} {s:Shared} {fp:List Addr} (I:Inv X pins σ H s) (hf:∀b∈fp,jfX X pins H b) (ho:∀b∈fp,∃o,s.heap.get? b=some o/\∀v,o.data≠.cell v):Inv X (pins++jeZ fp s.heap) σ H s :=
 I.pins_of fun p hp=>(xav.mp hp).elim (fun z=>I.pin p (xat _ z)) fun z=>by
  obtain⟨hb,e⟩:=jgY z;obtain⟨f0,f1,f2,_⟩:=hf p.1 hb;obtain⟨o,e',d⟩:=ho p.1 hb;rw[e] at e';cases e';exact⟨e,f0,f1,f2,d⟩
theorem Inv.unpinned {pins pl:List (Addr × Obj)} {σ:St} {H:Hp} {s:Shared} (I:Inv X (pins++pl) σ H s):Inv X pins σ H s:=I.pins_of fun p hp=>I.pin p (xat _ (xaS _ hp))
theorem jbo {iter:Expr} {body:List Stmt} {wi:TI} {g:TG} {tb:TS} {pos:Pos} (hp:PassesOwn (model X.prog X.w) X.A X.env X.xe) (hc:X.calm=true) (hi:PI X tg iter wi) (hg:PG X tg g) (hb:PSs X body tb)
  (hs:∀x,foldedSetIterable iter X.env x=pure x:=by intro _;rfl):PS X (.For tg iter body [] pos) (jjK wi g tb):=by
 intro pins s σ H D I h;refine wpAny_For (thn (hi pins s σ H _ I h) fun v s1 h1=>thn h1 fun itv s2 h2=>?_) hs;obtain⟨it,fp,tn,J,H2,e,I2,T,st2,f2,W,⟨m0,w0⟩,turn⟩:=h2;subst e;have stat:∀{H':Hp},(∀b∈fp,H' b=none)->∀b∈fp,jfX X pins H' b:=fun hn b hb=>⟨hn b hb,(f2 b hb).2⟩;refine codeAny_forLoop_any (fun n s'=>∃i σ' H',Inv X pins σ' H' s'/\tn i s'.heap/\(∀b∈fp,H' b=none)/\W i n σ' H') ?_ m0 ⟨0,σ,H2,I2,st2,fun b hb=>(f2 b hb).1,w0⟩;rintro n s3 ⟨i,σ3,H3,I3,st3,fr3,w3⟩;rcases turn i n σ3 H3 w3 with ⟨stop,qn⟩ | ⟨go,N,hN,step⟩
 ·refine wpAny_passesOwn hp (thn (T.done X rfl rfl rfl hc i pins s3 σ3 H3 X.xe I3 (stat fr3) st3 stop) fun r s4 ⟨hr,I4⟩=>?_);subst hr;exact wpAny_execs_nil ⟨σ3,H3,I4,qn⟩
 ·refine wpAny_passesOwn hp (thn (T.item X rfl rfl rfl hc i pins s3 σ3 H3 X.xe I3 (stat fr3) st3 go) fun r s4 ⟨u,hr,h4⟩=>?_);subst hr;refine wpAny_passesOwn hp (thn h4 fun _ s5 ⟨x,H5,I5,r5,y5,st5,fr5⟩=>?_);have I5':=I5.pinned (stat fr5) (T.obj _ _ st5);refine wpAny_passesOwn hp (thn (hg _ s5 σ3 H5 x u _ I5' r5 (step x H5 y5)) fun _ s6 ⟨σ6,H6,I6,q6⟩=>?_);refine wpAny_passesOwn hp (thn (hb _ s6 σ6 H6 _ I6 q6) fun f s7 q7=>?_);have again:∀{σ7:St} {H7:Hp},Inv X (pins++jeZ fp s5.heap) σ7 H7 s7->N σ7 H7->∃m,m<n/\∃i σ' H',Inv X pins σ' H' s7/\tn i s7.heap/\(∀b∈fp,H' b=none)/\W i m σ' H':=fun {σ7 H7} I7 n7=>by
   obtain⟨m',hm,w7⟩:=hN σ7 H7 n7;refine⟨m',hm,i+1,σ7,H7,I7.unpinned,T.keep _ _ _ st5 fun b hb o e=>(I7.pin (b,o) (xat _ (xat _ (jcA hb e)))).1,fun b hb=>?_,w7⟩;obtain⟨o,e,d⟩:=T.obj _ _ st5 b hb;exact (I7.pin (b,o) (xat _ (xat _ (jcA hb e)))).2.1
  cases f with
  | next=>obtain⟨σ7,H7,I7,n7⟩:=q7;exact again I7 n7
  | cont=>obtain⟨σ7,H7,I7,n7⟩:=q7;exact again I7 n7
  | brk=>obtain⟨σ7,H7,I7,q7⟩:=q7;exact⟨σ7,H7,I7.unpinned,q7⟩
  | ret v=>obtain⟨x7,σ7,H7,I7,r7,q7⟩:=q7;exact⟨x7,σ7,H7,I7.unpinned,r7,q7⟩
end
theorem jdI {K:PySem.W.Frag} {a:Addr} {xs:List V} {g:TG} {tb:TS} {D:Ends} {σ:St} {H:Hp} (Pv:Nat->St->Hp->Prop) (h0:Pv 0 σ H) (hl:∀i σ H,i<=xs.length->Pv i σ H->SqL K H a xs)
    (hs:∀i x σ H,xs[i]?=some x->Pv i σ H->g x σ H fun σ2 H2=>tb { D with nx:=Pv (i+1),ct:=Pv (i+1),bk:=D.nx } σ2 H2) (hd:∀σ H,Pv xs.length σ H->D.nx σ H) :
    ∃ W : Nat -> Nat -> St -> Hp -> Prop, (∃ m, W 0 m σ H) /\ ∀ i m σ H, W i m σ H ->
      ((Itl K a).stop i H/\D.nx σ H)\/((Itl K a).go i H/\∃N:St->Hp->Prop,(∀σ' H',N σ' H'->∃m',m'<m/\W (i+1) m' σ' H')/\∀x H',(Itl K a).yld i H x H'->g x σ H' fun σ2 H2=>tb { D with nx:=N,ct:=N,bk:=D.nx } σ2 H2):=by
  refine⟨fun i m σ H=>m=xs.length-i/\i<=xs.length/\Pv i σ H,⟨xs.length,by simp,xaN _,h0⟩,?_⟩;rintro i m σ H ⟨rfl,hi,p⟩;have q:=hl i σ H hi p;by_cases hlt:i<xs.length
  . refine .inr ⟨⟨xs,xs[i],q,by simp [hlt]⟩,Pv (i+1),fun σ' H' p'=>⟨xs.length-(i+1),by omega,rfl,hlt,p'⟩,fun x H' y=>?_⟩
    obtain⟨e,y⟩:=y;subst e;exact hs i x σ _ (y xs q) p
  . have e:i=xs.length:=by omega
    subst e;exact .inl ⟨⟨xs,q,xac _⟩,hd σ H p⟩
theorem jgZ {K:PySem.W.Frag} {a:Addr} {xs:List V} {g:TG} {tb:TS} {D:Ends} {σ:St} {H:Hp} (Pv:Nat->St->Hp->Prop) (h0:Pv 0 σ H) (hl:∀i σ H,i<=xs.length->Pv i σ H->SqT K H a xs)
    (hs:∀i x σ H,xs[i]?=some x->Pv i σ H->g x σ H fun σ2 H2=>tb { D with nx:=Pv (i+1),ct:=Pv (i+1),bk:=D.nx } σ2 H2) (hd:∀σ H,Pv xs.length σ H->D.nx σ H) :
    ∃ W : Nat -> Nat -> St -> Hp -> Prop, (∃ m, W 0 m σ H) /\ ∀ i m σ H, W i m σ H ->
      ((Itt K a).stop i H/\D.nx σ H)\/((Itt K a).go i H/\∃N:St->Hp->Prop,(∀σ' H',N σ' H'->∃m',m'<m/\W (i+1) m' σ' H')/\∀x H',(Itt K a).yld i H x H'->g x σ H' fun σ2 H2=>tb { D with nx:=N,ct:=N,bk:=D.nx } σ2 H2):=by
  refine⟨fun i m σ H=>m=xs.length-i/\i<=xs.length/\Pv i σ H,⟨xs.length,by simp,xaN _,h0⟩,?_⟩;rintro i m σ H ⟨rfl,hi,p⟩;have q:=hl i σ H hi p;by_cases hlt:i<xs.length
  . refine .inr ⟨⟨xs,xs[i],q,by simp [hlt]⟩,Pv (i+1),fun σ' H' p'=>⟨xs.length-(i+1),by omega,rfl,hlt,p'⟩,fun x H' y=>?_⟩
    obtain⟨e,y⟩:=y;subst e;exact hs i x σ _ (y xs q) p
  . have e:i=xs.length:=by omega
    subst e;exact .inl ⟨⟨xs,q,xac _⟩,hd σ H p⟩
theorem ja8 {lo:Int} {n:Nat} {g:TG} {tb:TS} {D:Ends} {σ:St} {H:Hp} (Pv:Nat->St->Hp->Prop) (h0:Pv 0 σ H)
    (hs:∀i σ H,i<n->Pv i σ H->g (.int (lo+i)) σ H fun σ2 H2=>tb { D with nx:=Pv (i+1),ct:=Pv (i+1),bk:=D.nx } σ2 H2) (hd:∀σ H,Pv n σ H->D.nx σ H) :
    ∃ W : Nat -> Nat -> St -> Hp -> Prop, (∃ m, W 0 m σ H) /\ ∀ i m σ H, W i m σ H ->
      ((Itr lo n).stop i H/\D.nx σ H)\/((Itr lo n).go i H/\∃N:St->Hp->Prop,(∀σ' H',N σ' H'->∃m',m'<m/\W (i+1) m' σ' H')/\∀x H',(Itr lo n).yld i H x H'->g x σ H' fun σ2 H2=>tb { D with nx:=N,ct:=N,bk:=D.nx } σ2 H2):=by
  refine⟨fun i m σ H=>m=n-i/\i<=n/\Pv i σ H,⟨n,by simp,xaN _,h0⟩,?_⟩;rintro i m σ H ⟨rfl,hi,p⟩;by_cases hlt:i<n
  . refine .inr ⟨hlt,Pv (i+1),fun σ' H' p'=>⟨n-(i+1),by omega,rfl,hlt,p'⟩,fun x H' y=>?_⟩
    obtain⟨e,y⟩:=y;subst e y;exact hs i σ _ hlt p
  . have e:i=n:=by omega
    subst e;exact .inl ⟨xac _,hd σ H p⟩
abbrev R2:=V->V->Hp->VK->Prop
def OpR (X:Cx) (f:Value->Value->Sem Value) (r:R2):Prop :=
  ∀ (pins : List (Addr × Obj)) (s : Shared) (σ : St) (H : Hp) (x y : V) (v u : Value) (Q : VK), Inv X pins σ H s -> RelV x v -> RelV y u -> r x y H Q ->
    wpAny (model X.prog X.w) X.A (f v u) (EP X pins σ Q) X.xe s
def UnR (X:Cx) (f:Value->Sem Value) (r:V->Hp->VK->Prop):Prop :=
  ∀ (pins : List (Addr × Obj)) (s : Shared) (σ : St) (H : Hp) (x : V) (v : Value) (Q : VK), Inv X pins σ H s -> RelV x v -> r x H Q ->
    wpAny (model X.prog X.w) X.A (f v) (EP X pins σ Q) X.xe s
def jcQ (X:Cx) (f:Value) (r:List V->Hp->VK->Prop):Prop :=
  ∀ (pins : List (Addr × Obj)) (s : Shared) (σ : St) (H : Hp) (xs : List V) (us : List Value) (Q : VK), Inv X pins σ H s -> Vals xs us -> r xs H Q ->
    wpAny (model X.prog X.w) X.A (call f us) (EP X pins σ Q) X.xe s
def TruR (X:Cx) (r:V->Hp->(Bool->Hp->Prop)->Prop):Prop :=
  ∀ (pins : List (Addr × Obj)) (s : Shared) (σ : St) (H : Hp) (x : V) (v : Value) (Q : Bool -> Hp -> Prop), Inv X pins σ H s -> RelV x v -> r x H Q ->
    wpAny (model X.prog X.w) X.A (truthy v) (TP X pins σ Q) X.xe s
def tOp (r:R2) (ta tb:TE):TE:=fun σ H Q=>ta σ H fun x H1=>tb σ H1 fun y H2=>r x y H2 Q
def tUn (r:V->Hp->VK->Prop) (ta:TE):TE:=fun σ H Q=>ta σ H fun x H1=>r x H1 Q
def rI (C:Int->Int->Prop) (g:Int->Int->V):R2:=fun x y H Q=>∃i j,x=.int i/\y=.int j/\C i j/\Q (g i j) H
def rI0 (g:Int->Int->V):R2:=fun x y H Q=>∃i j,x=.int i/\y=.int j/\Q (g i j) H
def rU (g:Int->V):V->Hp->VK->Prop:=fun x H Q=>∃i,x=.int i/\Q (g i) H
section
variable {X:Cx} {a b c:Expr} {ta tb tc:TE} {pos:Pos}
theorem binT (ha:PE X a ta) (hb:PE X b tb) {pins:List (Addr × Obj)} {s:Shared} {σ:St} {H:Hp} {R:V->V->Hp->Prop} (I:Inv X pins σ H s)
  (h:ta σ H fun x H1=>tb σ H1 fun y H2=>R x y H2) {Q:Value->Shared->Prop} {f:Value->Value->Sem Value}
  (hf:∀v u s2 x y H2,Inv X pins σ H2 s2->RelV x v->RelV y u->R x y H2->wpAny (model X.prog X.w) X.A (f v u) Q X.xe s2) :
  wpAny (model X.prog X.w) X.A (eval a X.env) (fun v s₁=>wpAny (model X.prog X.w) X.A (eval b X.env) (fun u s₂=>wpAny (model X.prog X.w) X.A (f v u) Q X.xe s₂) X.xe s₁) X.xe s:=by
 refine thn (ha pins s σ H _ I h) fun v s1 ⟨x,H1,I1,r1,q1⟩=>?_;refine thn (hb pins s1 σ H1 _ I1 q1) fun u s2 ⟨y,H2,I2,r2,q2⟩=>?_;exact hf v u s2 x y H2 I2 r1 r2 q2
theorem jah {op:Operator} {r:R2} (ho:OpR X (binaryOp op) r) (ha:PE X a ta) (hb:PE X b tb):PE X (.BinOp a op b pos) (tOp r ta tb):=by
 intro pins s σ H Q I h;exact wpAny_BinOp (binT ha hb I h fun v u s2 x y H2 I2 rx ry q=>ho pins s2 σ H2 x y v u Q I2 rx ry q)
theorem jdF {op:UnaryOp} {r:V->Hp->VK->Prop} (ho:UnR X (unaryOp op) r) (ha:PE X a ta):PE X (.UnaryOp op a pos) (tUn r ta):=by
 intro pins s σ H Q I h;exact UnaryOp_ (thn (ha pins s σ H _ I h) fun v s1 ⟨x,H1,I1,r1,q1⟩=>ho pins s1 σ H1 x v Q I1 r1 q1)
theorem opI {f:Value->Value->Sem Value} {C:Int->Int->Prop} {g:Int->Int->Int}
  (rule:∀(i j:Int) (t u:Tok) (s:Shared) (Q:Value->Shared->Prop) (E:Value->Shared->Prop),C i j->Q (.int (g i j) s.toks) { s with toks:=s.toks+1 }->wpAny (model X.prog X.w) X.A (f (.int i t) (.int j u)) Q E s) :
  OpR X f (rI C fun i j=>.int (g i j)):=by
 intro pins s σ H x y v u Q I rx ry h;obtain⟨i,j,rfl,rfl,hc,q⟩:=h;obtain⟨t,rfl⟩:=rx;obtain⟨t',rfl⟩:=ry;exact rule i j t t' s _ _ hc ⟨.int (g i j),H,I.tok _,⟨_,rfl⟩,q⟩
theorem opI0 {f:Value->Value->Sem Value} {g:Int->Int->Int}
  (rule:∀(i j:Int) (t u:Tok) (s:Shared) (Q:Value->Shared->Prop) (E:Value->Shared->Prop),Q (.int (g i j) s.toks) { s with toks:=s.toks+1 }->wpAny (model X.prog X.w) X.A (f (.int i t) (.int j u)) Q E s) :
  OpR X f (rI0 fun i j=>.int (g i j)):=by
 intro pins s σ H x y v u Q I rx ry h;obtain⟨i,j,rfl,rfl,q⟩:=h;obtain⟨t,rfl⟩:=rx;obtain⟨t',rfl⟩:=ry;exact rule i j t t' s _ _ ⟨.int (g i j),H,I.tok _,⟨_,rfl⟩,q⟩
theorem opB0 {f:Value->Value->Sem Value} {g:Int->Int->Bool}
  (rule:∀(i j:Int) (t u:Tok) (s:Shared) (Q:Value->Shared->Prop) (E:Value->Shared->Prop),Q (.bool (g i j)) s->wpAny (model X.prog X.w) X.A (f (.int i t) (.int j u)) Q E s) :
  OpR X f (rI0 fun i j=>.bl (g i j)):=by
 intro pins s σ H x y v u Q I rx ry h;obtain⟨i,j,rfl,rfl,q⟩:=h;obtain⟨t,rfl⟩:=rx;obtain⟨t',rfl⟩:=ry;exact rule i j t t' s _ _ ⟨.bl (g i j),H,I,rfl,q⟩
def CPow (i j:Int):Prop:=0<=j/\j<=1000000/\i.natAbs<2^64
theorem ja9:OpR X (binaryOp .Add) (rI0 fun i j=>.int (i+j)):=opI0 fun _ _ _ _ _ _ _ q=>add_int q
theorem ja2:OpR X (binaryOp .Sub) (rI0 fun i j=>.int (i-j)):=opI0 fun _ _ _ _ _ _ _ q=>sub_int q
theorem jaB:OpR X (binaryOp .Mod) (rI (fun _ j=>0<j) fun i j=>.int (i % j)):=opI fun i j _ _ _ _ _ hc q=>by
 have h1:(0:Int)<j:=hc;exact mod_int' (by omega) (by rw[Int.fmod_eq_emod_of_nonneg i (by omega)];exact q)
theorem jf0:OpR X (binaryOp .Pow) (rI CPow fun i j=>.int (i^j.toNat)):=opI fun _ _ _ _ _ _ _ hc q=>pow_int_small hc.1 hc.2.1 hc.2.2 q
theorem unI {f:Value->Sem Value} {g:Int->Int}
  (rule:∀(i:Int) (t:Tok) (s:Shared) (Q:Value->Shared->Prop) (E:Value->Shared->Prop),Q (.int (g i) s.toks) { s with toks:=s.toks+1 }->wpAny (model X.prog X.w) X.A (f (.int i t)) Q E s) :
  UnR X f (rU fun i=>.int (g i)):=by
 intro pins s σ H x v Q I rx h;obtain⟨i,rfl,q⟩:=h;obtain⟨t,rfl⟩:=rx;exact rule i t s _ _ ⟨.int (g i),H,I.tok _,⟨_,rfl⟩,q⟩
theorem jb7:UnR X (unaryOp .USub) (rU fun i=>.int (-i)):=unI fun _ _ _ _ _ q=>neg_int q
end
def jkF:V->V->Bool
 | .non,.non=>true | .non,.int _=>true | .int _,.non=>true | .non,.bl _=>true | .bl _,.non=>true | .non,.str _=>true | .str _,.non=>true
 | .int _,.int _=>true | .bl _,.bl _=>true | .str _,.str _=>true | .byt _,.byt _=>true
 | .int _,.str _=>true | .str _,.int _=>true | .bl _,.str _=>true | .str _,.bl _=>true
 | _,_=>false
def rEq:R2:=fun x y H Q=>jkF x y=true/\Q (.bl (decide (x=y))) H
def rNe:R2:=fun x y H Q=>jkF x y=true/\Q (.bl (!decide (x=y))) H
theorem jg0 {i j:Int}:decide (V.int i=V.int j)=(i==j):=by
 rw[xbc];simp
theorem ji8 {i j:Bool}:decide (V.bl i=V.bl j)=(i==j):=by
 rw[xbc];simp
theorem jg1 {i j:Str}:decide (V.str i=V.str j)=(i==j):=by
 rw[xbc];simp
theorem jg2 {i j:Array UInt8}:decide (V.byt i=V.byt j)=(i.toList==j.toList):=by
 rw[xbc];cases i;cases j;simp
section
variable {X:Cx} {a b c:Expr} {ta tb tc:TE} {pos:Pos}
theorem jaT {pins:List (Addr × Obj)} {σ:St} {H:Hp} {s:Shared} {Q:VK} {k k':Bool} (I:Inv X pins σ H s) (q:Q (.bl k) H) (e:k=k'):EP X pins σ Q (.bool k') s:=by
 subst e;exact⟨.bl k,H,I,rfl,q⟩
theorem jbp:OpR X (compareOp .Eq) rEq:=by
  intro pins s σ H x y v u Q I rx ry h;obtain⟨hs,q⟩:=h;cases x with
  | non =>
    cases rx;cases y with
    | non=>cases ry;exact PySem.EqNone.eq_none_none (jaT I q (by simp))
    | bl j=>cases ry;exact PySem.EqNone.eq_none_bool (jaT I q (by simp))
    | int j=>obtain⟨t',rfl⟩:=ry;exact PySem.EqNone.eq_none_int (jaT I q (by simp))
    | str j=>obtain⟨t',rfl⟩:=ry;exact PySem.EqNone.eq_none_str (jaT I q (by simp))
    | _=>exact absurd (show false=true from hs) xan
  | bl i =>
    cases rx;cases y with
    | non=>cases ry;exact PySem.EqNone.eq_bool_none (jaT I q (by simp))
    | bl j=>cases ry;exact eq_bool (jaT I q ji8)
    | str j=>obtain⟨t',rfl⟩:=ry;exact PySem.EqMixed.eq_bool_str (jaT I q (by simp))
    | _=>exact absurd (show false=true from hs) xan
  | int i =>
    obtain⟨t,rfl⟩:=rx;cases y with
    | non=>cases ry;exact PySem.EqNone.eq_int_none (jaT I q (by simp))
    | int j=>obtain⟨t',rfl⟩:=ry;exact eq_int (jaT I q jg0)
    | str j=>obtain⟨t',rfl⟩:=ry;exact PySem.EqMixed.eq_int_str (jaT I q (by simp))
    | _=>exact absurd (show false=true from hs) xan
  | str i =>
    obtain⟨t,rfl⟩:=rx;cases y with
    | non=>cases ry;exact PySem.EqNone.eq_str_none (jaT I q (by simp))
    | bl j=>cases ry;exact PySem.EqMixed.eq_str_bool (jaT I q (by simp))
    | int j=>obtain⟨t',rfl⟩:=ry;exact PySem.EqMixed.eq_str_int (jaT I q (by simp))
    | str j=>obtain⟨t',rfl⟩:=ry;exact eq_str (jaT I q jg1)
    | _=>exact absurd (show false=true from hs) xan
  | byt i =>
    obtain⟨t,rfl⟩:=rx;cases y with
    | byt j=>obtain⟨t',rfl⟩:=ry;exact PySem.W.eq_bytes (jaT I q jg2)
    | _=>exact absurd (show false=true from hs) xan
  | _=>cases y<;>exact absurd (show false=true from hs) xan
theorem jeA:OpR X (compareOp .NotEq) rNe:=by
  intro pins s σ H x y v u Q I rx ry h;obtain⟨hs,q⟩:=h;cases x with
  | non =>
    cases rx;cases y with
    | non=>cases ry;exact PySem.EqNone.ne_none_none (jaT I q (by simp))
    | bl j=>cases ry;exact PySem.EqNone.ne_none_bool (jaT I q (by simp))
    | int j=>obtain⟨t',rfl⟩:=ry;exact PySem.EqNone.ne_none_int (jaT I q (by simp))
    | str j=>obtain⟨t',rfl⟩:=ry;exact PySem.EqNone.ne_none_str (jaT I q (by simp))
    | _=>exact absurd (show false=true from hs) xan
  | bl i =>
    cases rx;cases y with
    | non=>cases ry;exact PySem.EqNone.ne_bool_none (jaT I q (by simp))
    | bl j=>cases ry;exact ne_bool (jaT I q (congrArg not ji8))
    | str j=>obtain⟨t',rfl⟩:=ry;exact PySem.EqMixed.ne_bool_str (jaT I q (by simp))
    | _=>exact absurd (show false=true from hs) xan
  | int i =>
    obtain⟨t,rfl⟩:=rx;cases y with
    | non=>cases ry;exact PySem.EqNone.ne_int_none (jaT I q (by simp))
    | int j=>obtain⟨t',rfl⟩:=ry;exact ne_int (jaT I q (congrArg not jg0))
    | str j=>obtain⟨t',rfl⟩:=ry;exact PySem.EqMixed.ne_int_str (jaT I q (by simp))
    | _=>exact absurd (show false=true from hs) xan
  | str i =>
    obtain⟨t,rfl⟩:=rx;cases y with
    | non=>cases ry;exact PySem.EqNone.ne_str_none (jaT I q (by simp))
    | bl j=>cases ry;exact PySem.EqMixed.ne_str_bool (jaT I q (by simp))
    | int j=>obtain⟨t',rfl⟩:=ry;exact PySem.EqMixed.ne_str_int (jaT I q (by simp))
    | str j=>obtain⟨t',rfl⟩:=ry;exact ne_str (jaT I q (congrArg not jg1))
    | _=>exact absurd (show false=true from hs) xan
  | byt i =>
    obtain⟨t,rfl⟩:=rx;cases y with
    | byt j=>obtain⟨t',rfl⟩:=ry;exact PySem.W.ne_bytes (jaT I q (congrArg not jg2))
    | _=>exact absurd (show false=true from hs) xan
  | _=>cases y<;>exact absurd (show false=true from hs) xan
theorem jjL:OpR X (compareOp .Lt) (rI0 fun i j=>.bl (decide (i<j))):=opB0 fun _ _ _ _ _ _ _ q=>lt_int q
theorem jkU:OpR X (compareOp .LtE) (rI0 fun i j=>.bl (decide (i<=j))):=opB0 fun _ _ _ _ _ _ _ q=>le_int q
theorem jeg:OpR X (compareOp .Gt) (rI0 fun i j=>.bl (decide (j<i))):=opB0 fun _ _ _ _ _ _ _ q=>gt_int q
theorem jkV:OpR X (compareOp .GtE) (rI0 fun i j=>.bl (decide (j<=i))):=opB0 fun _ _ _ _ _ _ _ q=>ge_int q
theorem jjM:OpR X (compareOp .IsNot) (fun x y H Q=>y=.non/\Q (.bl (!decide (x=.non))) H):=by
 intro pins s σ H x y v u Q I rx ry h;obtain⟨rfl,q⟩:=h;cases ry;refine isnot_none_gen (jaT I q ?_);cases x<;>first
  | (cases rx;rfl)
  | (obtain⟨t,rfl⟩:=rx;rfl)
theorem jar (b:Expr) {op:CmpOp} (h:op≠.In:=by decide) (h2:op≠.NotIn:=by decide):behindInMarks op b=false:=by
 have e1:(op==CmpOp.In)=false:=by cases op<;>first | rfl | exact absurd rfl h
 have e2:(op==CmpOp.NotIn)=false:=by cases op<;>first | rfl | exact absurd rfl h2
 cases b<;>simp [behindInMarks,e1,e2]
theorem jg3 {op:CmpOp} {r:R2} (ho:OpR X (compareOp op) r) (ha:PE X a ta) (hb:PE X b tb) (hm:behindInMarks op b=false):PE X (.Compare a [op] [b] pos) (tOp r ta tb):=by
 intro pins s σ H Q I h;exact wpAny_Compare1 (binT ha hb I h fun v u s2 x y H2 I2 rx ry q=>ho pins s2 σ H2 x y v u Q I2 rx ry q) hm
def jfw (t:TE):TT:=fun σ H Q=>t σ H fun x H'=>∃k,x=.bl k/\Q k H'
theorem jam {op:CmpOp} {r:R2} (ho:OpR X (compareOp op) r) (ha:PE X a ta) (hb:PE X b tb) (hm:behindInMarks op b=false):PT X (.Compare a [op] [b] pos) (jfw (tOp r ta tb)):=by
 intro pins s σ H Q I h;refine wpAny_isTrue_Compare1 (thn (ha pins s σ H _ I h) fun v s1 ⟨x,H1,I1,r1,q1⟩=>thn (hb pins s1 σ H1 _ I1 q1) fun u s2 ⟨y,H2,I2,r2,q2⟩ =>
  thn (ho pins s2 σ H2 x y v u _ I2 r1 r2 q2) fun c s3 ⟨z,H3,I3,r3,k,e,q3⟩=>?_) hm
 subst e;cases r3;exact wpAny_truthy_bool ⟨H3,I3,q3⟩
def jf1 (r r':R2) (ta tb tc:TE):TE:=fun σ H Q=>ta σ H fun x H1=>tb σ H1 fun y H2=>r x y H2 fun z H3=>∃k,z=.bl k /\
 (if k=true then tc σ H3 fun w' H4=>r' y w' H4 Q else Q (.bl false) H3)
theorem jim {op op':CmpOp} {r r':R2} (ho:OpR X (compareOp op) r) (ho':OpR X (compareOp op') r') (ha:PE X a ta) (hb:PE X b tb) (hc:PE X c tc)
  (hm:lastMarks [op,op'] [b,c]=false:=by with_unfolding_all rfl):PE X (.Compare a [op,op'] [b,c] pos) (jf1 r r' ta tb tc):=by
 intro pins s σ H Q I h;refine Compare_chain (thn (ha pins s σ H _ I h) fun v s1 ⟨x,H1,I1,r1,q1⟩=>chain_link (thn (hb pins s1 σ H1 _ I1 q1) fun u s2 ⟨y,H2,I2,r2,q2⟩ =>
  thn (ho pins s2 σ H2 x y v u _ I2 r1 r2 q2) fun d s3 ⟨z,H3,I3,r3,k,e,q3⟩=>?_)) hm
 subst e;cases r3;refine wpAny_truthy_bool ?_;cases k with
 | false=>exact ite_ff ⟨.bl false,H3,I3,rfl,q3⟩
 | true=>exact ite_tt (chain_last (thn (hc pins s3 σ H3 _ I3 q3) fun w' s4 ⟨z',H4,I4,r4,q4⟩=>ho' pins s4 σ H4 y z' u w' Q I4 r2 r4 q4))
theorem jin {op op':CmpOp} {r r':R2} (ho:OpR X (compareOp op) r) (ho':OpR X (compareOp op') r') (ha:PE X a ta) (hb:PE X b tb) (hc:PE X c tc)
    (hm:lastMarks [op,op'] [b,c]=false:=by with_unfolding_all rfl):PT X (.Compare a [op,op'] [b,c] pos) (jfw (jf1 r r' ta tb tc)):=by
  intro pins s σ H Q I h;refine isTrue_chain (thn (ha pins s σ H _ I h) fun v s1 ⟨x,H1,I1,r1,q1⟩=>test_link (thn (hb pins s1 σ H1 _ I1 q1) fun u s2 ⟨y,H2,I2,r2,q2⟩ =>
    thn (ho pins s2 σ H2 x y v u _ I2 r1 r2 q2) fun d s3 ⟨z,H3,I3,r3,k,e,q3⟩=>?_)) hm
  subst e;cases r3;refine wpAny_truthy_bool ?_;cases k with
  | false =>
    obtain⟨k',e',q'⟩:=q3;cases e';exact ite_ff ⟨H3,I3,q'⟩
  | true =>
    refine ite_tt (test_last (thn (hc pins s3 σ H3 _ I3 q3) fun w' s4 ⟨z',H4,I4,r4,q4⟩=>thn (ho' pins s4 σ H4 y z' u w' _ I4 r2 r4 q4) fun d' s5 ⟨z2,H5,I5,r5,k2,e2,q5⟩=>?_));subst e2;cases r5;exact wpAny_truthy_bool ⟨H5,I5,q5⟩
def TruV (K:PySem.W.Frag) (x:V) (H:Hp) (k:Bool):Prop :=
 match x with
 | .non=>k=false
 | .bl b=>k=b
 | .int i=>k=(i != 0)
 | .str y=>y.length<=sizeLine/\k=((y.length:Int) != 0)
 | .byt y=>y.size<=sizeLine/\k=((y.size:Int) != 0)
 | .ref p=>(∃xs,SqL K H p xs/\k=!xs.isEmpty)\/(∃xs,SqT K H p xs/\k=!xs.isEmpty)\/∃kvs,H p=some (.dK kvs)/\k=!kvs.isEmpty
 | _=>False
theorem jgy {κ:Type} {kvs:List (κ × V)} {vs:List (κ × Value)} (r:KV kvs vs):(!vs.isEmpty)=!kvs.isEmpty:=by
 cases r<;>rfl
theorem jem {xs:List V} {its:List Value} (r:Vals xs its):(!its.toArray.isEmpty)=!xs.isEmpty:=by
 cases r<;>simp
theorem je0:(sizeLine:Nat)<2^63:=by rw[sizeLine_eq];decide
theorem jkW:TruR X (fun x H Q=>∃k,TruV X.K x H k/\Q k H):=by
  intro pins s σ H x v Q I rx h;obtain⟨k,e,q⟩:=h;have hl:=je0;have hs:sizeLine=16777216:=sizeLine_eq;cases x with
  | non =>
    cases rx;have e':k=false:=e;subst e';exact truthy_none ⟨H,I,q⟩
  | bl b =>
    cases rx;have e':k=b:=e;subst e';exact wpAny_truthy_bool ⟨H,I,q⟩
  | int i =>
    obtain⟨t,rfl⟩:=rx;have e':k=(i != 0):=e;subst e';exact PySem.P.truthy_int ⟨H,I,q⟩
  | str y =>
    obtain⟨t,rfl⟩:=rx;obtain⟨hy,e'⟩:y.length<=sizeLine/\k=((y.length:Int) != 0):=e;subst e';exact PySem.P.truthy_str (by omega) ⟨H,I.tok _,q⟩
  | byt y =>
    obtain⟨t,rfl⟩:=rx;obtain⟨hy,e'⟩:y.size<=sizeLine/\k=((y.size:Int) != 0):=e;subst e';exact PySem.W.truthy_bytes (by omega) ⟨H,I.tok _,q⟩
  | ref p =>
    cases rx;have e':(∃xs,SqL X.K H p xs/\k=!xs.isEmpty)\/(∃xs,SqT X.K H p xs/\k=!xs.isEmpty)\/∃kvs,H p=some (.dK kvs)/\k=!kvs.isEmpty:=e;rcases e' with ⟨xs,hx,e'⟩ | ⟨xs,hx,e'⟩ | ⟨kvs,hx,e'⟩
    . subst e'
      obtain⟨its,r,pl,hz⟩:=I.list hx;have hlen:=r.length;exact wpAny_truthy_list pl.isList (by simp only[xad];omega) ⟨H,I.tok _,by rw[jem r];exact q⟩
    . subst e'
      obtain⟨its,r,pl,hz⟩:=I.tuple hx;have hlen:=r.length;exact truthy_tuple pl (by simp only[xad];omega) ⟨H,I.tok _,by rw[jem r];exact q⟩
    . subst e'
      obtain⟨hz,hS,vs,r,m⟩:kvs.length<=sizeLine/\(p==sysModules)=false/\∃vs,KV kvs vs/\s.heap.DictOf (jfv X.prog X.w) p vs:=I.hok p _ hx;have hlen:kvs.length=vs.length:=Paired.length r;exact wpAny_truthy_dict hS m (by omega) ⟨H,I.tok _,by rw[jgy r];exact q⟩
  | _=>exact (show False from e).elim
theorem jio (ha:PE X a ta) (he:∀whole,isTrue a X.env whole=(do let v <- whole;standAt a.pos;holding [v] (truthy v))) :
  PT X a (fun σ H Q=>ta σ H fun x H'=>∃k,TruV X.K x H' k/\Q k H'):=by
 intro pins s σ H Q I h;exact isTrue_plain (thn (ha pins s σ H _ I h) fun v s1 ⟨x,H1,I1,r1,q1⟩=>jkW pins s1 σ H1 x v Q I1 r1 q1) (he _)
theorem jbw:OpR X (binaryOp .Add) (fun x y H Q=>∃i j,x=.str i/\y=.str j/\i.length+j.length<=sizeLine/\Q (.str (i++j)) H):=by
 intro pins s σ H x y v u Q I rx ry h;obtain⟨i,j,rfl,rfl,hz,q⟩:=h;obtain⟨t,rfl⟩:=rx;obtain⟨t',rfl⟩:=ry;exact add_str (fun t' tk=>⟨.str (i++j),H,I.tok _,⟨_,rfl⟩,q⟩) hz
def jip (b:Expr):Prop:=∀o i,subscripted b false o i=operate [o,i] (getItem o i)
theorem jcR (ha:PE X a ta) (hb:PE X b tb) (hs:jip b) :
  PE X (.Subscript a b pos) (tOp (fun x y H Q=>∃z i c,x=.str z/\y=.int i/\0<=i/\i<2^63/\i<z.length/\z.cps[i.toNat]?=some c/\Q (.str ⟨#[c]⟩) H) ta tb):=by
 intro pins s σ H Q I h;refine Subscript_ (binT ha hb I h fun v u s2 x y H2 I2 rx ry q=>?_);obtain⟨z,i,c,rfl,rfl,h0,h63,h1,hc,q⟩:=q;obtain⟨t,rfl⟩:=rx;obtain⟨t',rfl⟩:=ry;have e:seqIndex? i z.length=some i.toNat:=PySem.StrLaws.seqIndex_nonneg h0 h1;exact tail_any (typeIs_str s2 z t) slot_str_getitem.lookup (getItem_str (c:=c) (by
  have e1:decide (i < -(2^63:Int))=false:=decide_eq_false (by omega);have e2:decide (i≥2^63)=false:=decide_eq_false (by omega);rw[e1,e2]<;>rfl) (by rw[e];exact hc) ⟨.str ⟨#[c]⟩,H2,I2.tok _,⟨_,rfl⟩,q⟩) (hs _ _)
theorem jeh {x:V} {us:List Value} (r:Vals [x] us):∃u,us=[u]/\RelV x u:=by
 cases r with
 | cons r1 r2=>cases r2;exact⟨_,rfl,r1⟩
theorem jiq {x y:V} {us:List Value} (r:Vals [x,y] us):∃u w',us=[u,w']/\RelV x u/\RelV y w':=by
  cases r with
  | cons r1 r2 =>
    cases r2 with
    | cons r3 r4=>cases r4;exact⟨_,_,rfl,r1,r3⟩
theorem jbH:jcQ X (.builtin "abs") (fun xs H Q=>∃i,xs=[.int i]/\Q (.int (if i<0 then -i else i)) H):=by
 intro pins s σ H xs us Q I r h;obtain⟨i,rfl,q⟩:=h;obtain⟨u,rfl,t,rfl⟩:=jeh r;exact call_abs_int fun u tk=>⟨.int (if i<0 then -i else i),H,I.tok _,⟨_,rfl⟩,q⟩
theorem je1 (hc:X.calm=true):jcQ X (.builtin "max") (fun xs H Q=>∃i j,xs=[.int i,.int j]/\Q (.int (if j>i then j else i)) H):=by
 intro pins s σ H xs us Q I r h;obtain⟨i,j,rfl,q⟩:=h;obtain⟨u,w',rfl,⟨t,rfl⟩,⟨t',rfl⟩⟩:=jiq r;refine max_two_ints (I.ok.hd hc) fun h' tk k=>⟨_,H,I.kept k,?_,q⟩;by_cases hj:j>i
 ·rw[if_pos hj,if_pos hj];exact⟨_,rfl⟩
 ·rw[if_neg hj,if_neg hj];exact⟨_,rfl⟩
theorem jg4 (hc:X.calm=true):jcQ X (.builtin "min") (fun xs H Q=>∃i j,xs=[.int i,.int j]/\Q (.int (if j<i then j else i)) H):=by
 intro pins s σ H xs us Q I r h;obtain⟨i,j,rfl,q⟩:=h;obtain⟨u,w',rfl,⟨t,rfl⟩,⟨t',rfl⟩⟩:=jiq r;refine min_two_ints (I.ok.hd hc) fun h' tk k=>⟨_,H,I.kept k,?_,q⟩;by_cases hj:j<i
 ·rw[if_pos hj,if_pos hj];exact⟨_,rfl⟩
 ·rw[if_neg hj,if_neg hj];exact⟨_,rfl⟩
def LenV (K:PySem.W.Frag) (x:V) (H:Hp) (n:Nat):Prop :=
 match x with
 | .str y=>y.length<=sizeLine/\n=y.length
 | .byt y=>y.size<=sizeLine/\n=y.size
 | .ref p=>(∃xs,SqL K H p xs/\n=xs.length)\/∃xs,SqT K H p xs/\n=xs.length
 | _=>False
theorem jf2:jcQ X (.builtin "len") (fun xs H Q=>∃x n,xs=[x]/\LenV X.K x H n/\Q (.int n) H):=by
  intro pins s σ H xs us Q I r h;obtain⟨x,n,rfl,e,q⟩:=h;obtain⟨u,rfl,rx⟩:=jeh r;have hl:=je0;have hs:sizeLine=16777216:=sizeLine_eq;cases x with
  | str y =>
    obtain⟨t,rfl⟩:=rx;obtain⟨hy,e'⟩:y.length<=sizeLine/\n=y.length:=e;subst e';exact len_str (by omega) ⟨.int _,H,I.tok _,⟨_,rfl⟩,q⟩
  | byt y =>
    obtain⟨t,rfl⟩:=rx;obtain⟨hy,e'⟩:y.size<=sizeLine/\n=y.size:=e;subst e';exact PySem.W.len_bytes (by omega) ⟨.int _,H,I.tok _,⟨_,rfl⟩,q⟩
  | ref p =>
    cases rx;have e':(∃xs,SqL X.K H p xs/\n=xs.length)\/∃xs,SqT X.K H p xs/\n=xs.length:=e;rcases e' with ⟨xs,hx,e'⟩ | ⟨xs,hx,e'⟩
    . subst e'
      obtain⟨its,r',pl,hz⟩:=I.list hx;have hlen:=r'.length;exact Calls.call_len_list pl.isList (by simp only[xad];omega) ⟨.int xs.length,H,I.tok _,⟨_,by simp only[xad];rw[hlen]⟩,q⟩
    . subst e'
      obtain⟨its,r',pl,hz⟩:=I.tuple hx;have hlen:=r'.length;exact len_tuple pl (by simp only[xad];omega) ⟨.int xs.length,H,I.tok _,⟨_,by simp only[xad];rw[hlen]⟩,q⟩
  | _=>exact (show False from e).elim
end
structure ObjM (h:Heap) (x dx C:Addr) (mA:Str->Option Value):Prop where
 obj:h.get? x=some (PySem.W.instObj C dx)
 ns:h.Ns1 dx mA
 ne:dx≠x
theorem jg5 {h:Heap} {dx:Addr} {mA:Str->Option Value} (n:h.Ns1 dx mA):∃od,h.get? dx=some od/\∀name,PySem.W.lookIn name od=some (mA name):=by
 obtain⟨o,es,ep,ho,hd,hk,_,hm⟩:=n;refine⟨o,ho,fun name=>?_⟩;have e:=hm name;unfold nsFind findBy at e;rw[<- Array.find?_toList] at e;unfold PySem.W.lookIn;rw[hd];dsimp only;split
 ·rename_i y q
  rw[q] at e;exact congrArg some e
 ·rename_i q
  rw[q] at e;have a:es.toList.any (·.refKey)=false:=by
   rw[List.any_eq_false];intro y hy;obtain⟨z,t,hkey⟩:=hk y (Array.mem_toList_iff.mp hy);simp [DictEntry.refKey,hkey]
  have a':¬es.toList.any (·.refKey)=true:=by rw[a];exact xan
  rw[if_neg a'];exact congrArg some e
theorem ObjM.look {h:Heap} {x dx C:Addr} {mA:Str->Option Value} (I:ObjM h x dx C mA):∃od,PySem.W.InstAt h x (PySem.W.instObj C dx) C (some od)/\∀name,PySem.W.lookIn name od=some (mA name) :=
 let ⟨od,ho,hl⟩:=jg5 I.ns
 ⟨od,⟨I.obj,rfl,rfl,ho⟩,hl⟩
section
variable {prog:Program} {w:World} {A:Around} {E:Value->Shared->Prop} {s:Shared} {K:PySem.W.Frag} {x dx C f:Addr} {mA:Str->Option Value} {name:Str} {v:Value}
theorem jjN {expr:Bool} {Q:Value->Shared->Prop} (X:K.In s.heap) (I:ObjM s.heap x dx C mA) (hg:PySem.W.plainGet K C name=true) (hh:PySem.W.hasDictIn K C=true)
  (ha:PySem.W.findIn K (.ref C) name=some none) (hv:mA name=some v) (hv':PySem.W.handedIn v=true) (h:Q v { s with toks:=s.toks+1 }) :
  wpAny (model prog w) A (getAttr (.ref x) name expr) Q E s:=by
 obtain⟨od,J,hl⟩:=I.look;exact PySem.W.get_value X J (PySem.W.plainGet_of hg).1 (PySem.W.findObj_own hh ha rfl (by rw[hl,hv])) hv' h
theorem jir {pl:Sem Bool} {Q:Value × List Value->Shared->Prop} (X:K.In s.heap) (I:ObjM s.heap x dx C mA) (hg:PySem.W.plainGet K C name=true)
  (hf:PySem.W.findIn K (.ref C) name=some (some (.ref f))) (ht:PySem.W.isFn K (.ref f)=true) (hv:mA name=none) (h:Q (.ref f,[.ref x]) s) :
  wpAny (model prog w) A (getMethod (.ref x) name pl) Q E s:=by
 obtain⟨od,J,hl⟩:=I.look;exact PySem.W.method_fn X J (PySem.W.plainGet_of hg).1 (PySem.W.plainGet_of hg).2 hf (beq_iff_eq.mp ht) (by show (PySem.W.lookIn name od).map (·.isSome)=some false;rw[hl,hv];rfl) h
theorem jjO {ns:List Str} {Q:Unit->Shared->Prop} (X:K.In s.heap) (I:ObjM s.heap x dx C mA)
  (hs:PySem.W.findIn K (.ref C) "__setattr__"=some (some (.builtin "object.__setattr__"))) (hp:PySem.W.plainOver K C=true) (ht:PySem.W.takerIn K C name=some none) (hh:PySem.W.hasDictIn K C=true)
  (hw:PySem.Within mA ns) (hsz:ns.length<=sizeLine)
  (h:∀h',ObjM h' x dx C (fun y=>if y=name then some v else mA y)->Heap.SameBut dx s.heap h'->Q () { s with heap:=h',toks:=s.toks+2 }) :
  wpAny (model prog w) A (setAttr (.ref x) name v) Q E s:=by
 obtain⟨od,J,hl⟩:=I.look;refine PySem.W.set_plain X J hs (PySem.W.osa_open (s:={ s with toks:=s.toks+1 }) (r:=none) X J hp ht fun b=>?_);obtain⟨cd,hc,hd'⟩:=PySem.W.any_some hh;have hx:s.heap.get? x=some ⟨.ref C,some dx,.plain,#[]⟩:=I.obj;refine wpAny_bind (wpAny_pure (wpAny_bind (wpAny_bind (wpAny_loadPart hx (wpAny_bind (PySem.W.Looks.here (s:={ s with toks:=s.toks+1 }) (PySem.W.looks_clsIn X hc) ?_))))));rw[hd'];refine wpAny_pure (a:=some dx) (wpAny_bind (wpAny_pure (wpAny_bind ?_)));refine wpAny_nsSet1 (s:={ s with toks:=s.toks+1 }) I.ns fun h' hn2 hs2=>?_;obtain⟨oD,esD,epD,hoD,hdD,hcD⟩:=hn2.count (PySem.Within.cons name v hw);refine wpAny_bind (wpAny_lookBehind hoD (by rw[hdD];exact pastItsLine_dict (xaw hcD (by rw[xax];omega))) ?_);exact wpAny_pure (h _ ⟨(hs2.2 _ (Ne.symm I.ne)).trans I.obj,hn2,I.ne⟩ hs2)
theorem jis {R:Result->Shared->Prop} {vs:List Value} {kw:List (Str × Value)} (X:K.In s.heap) (hm:PySem.W.makesIn K C=true)
  (hi:PySem.W.findIn K (.ref C) "__init__"=some (some (.ref f))) (hf:PySem.W.typeIn K (.ref f)=some (.type "function"))
  (h:codeAny (model prog w) (A.under (.builtin "type.__call__" ⟨.ref C::vs,kw⟩)) (.call (.ref f) ⟨.ref (s.heap.objs.size+1)::vs,kw⟩) (PySem.W.InitBack (s.heap.objs.size+1) R)
   { s with heap:=(s.heap.push PySem.W.emptyDict).push (PySem.W.instObj C s.heap.objs.size) }) :
  codeAny (model prog w) A (.call (.ref C) ⟨vs,kw⟩) R s:=by
 obtain⟨hh,g,d,t,os⟩:=s;exact PySem.W.make_core (PySem.W.makes_of X hm) (PySem.W.looks_findIn X hi) (fun self=>PySem.W.bind_fn X self hf) (.inl rfl) h
end
def jef (f:Str) (v:V):List (Str × V)->List (Str × V)
 | []=>[(f,v)]
 | (g,x)::r=>if g=f then (g,v)::r else (g,x)::jef f v r
theorem jdM (f g:Str) (v:V):∀fs:List (Str × V),(jef f v fs).lookup g=if g=f then some v else fs.lookup g
  | [] => by
    show List.lookup g [(f,v)]=_;by_cases h:g=f
    . have hb:(g==f)=true:=beq_iff_eq.mpr h
      simp only[List.lookup,hb,if_pos h]
    . have hb:(g==f)=false:=beq_eq_false_iff_ne.mpr h
      simp only[List.lookup,hb,if_neg h]
  | (k, x) :: r => by
    have ih:=jdM f g v r;rw[show jef f v ((k,x)::r)=(if k=f then (k,v)::r else (k,x)::jef f v r) from rfl];by_cases hk:k=f
    . rw[if_pos hk]
      by_cases h:g=k
      . have hb:(g==k)=true:=beq_iff_eq.mpr h
        simp only[List.lookup,hb,if_pos (h.trans hk)]
      . have hb:(g==k)=false:=beq_eq_false_iff_ne.mpr h
        simp only[List.lookup,hb,if_neg (fun e:g=f=>h (e.trans hk.symm))]
    . rw[if_neg hk]
      by_cases h:g=k
      . have hb:(g==k)=true:=beq_iff_eq.mpr h
        simp only[List.lookup,hb,if_neg (fun e:g=f=>hk (h.symm.trans e))]
      . have hb:(g==k)=false:=beq_eq_false_iff_ne.mpr h
        simp only[List.lookup,hb];exact ih
theorem jdN (f:Str) (v:V):∀fs:List (Str × V),f∈(jef f v fs).map (·.1)/\∀g,g∈fs.map (·.1)->g∈(jef f v fs).map (·.1)
  | []=>⟨by simp [jef],fun g h=>by simp at h⟩
  | (k, x) :: r => by
    obtain⟨i1,i2⟩:=jdN f v r;rw[show jef f v ((k,x)::r)=(if k=f then (k,v)::r else (k,x)::jef f v r) from rfl];by_cases hk:k=f
    . rw[if_pos hk]
      subst hk;exact⟨by simp,fun g h=>by simpa using h⟩
    . rw[if_neg hk]
      refine⟨?_,fun g h=>?_⟩
      . rw[xaY]
        exact xar _ i1
      . rw[xaY] at h |-
        rcases xaf.mp h with e | e
        . exact xaf.mpr (.inl e)
        . exact xar _ (i2 g e)
theorem jdO (f:Str) (v:V):∀fs:List (Str × V),(jef f v fs).length<=fs.length+1
  | []=>by simp [jef]
  | (k, x) :: r => by
    have ih:=jdO f v r;rw[show jef f v ((k,x)::r)=(if k=f then (k,v)::r else (k,x)::jef f v r) from rfl];by_cases hk:k=f
    . rw[if_pos hk,xax,xax];omega
    . rw[if_neg hk,xax,xax];omega
theorem RelO.some_of {v:V} {o:Option Value} (r:RelO (some v) o):∃u,o=some u/\RelV v u:=by
 cases o with
 | none=>exact (show False from r).elim
 | some u=>exact⟨u,rfl,r⟩
theorem RelO.none_of {o:Option Value} (r:RelO none o):o=none:=by
 cases o with
 | none=>rfl
 | some u=>exact (show False from r).elim
theorem jg6 {v:V} {u:Value} (r:RelV v u):PySem.W.handedIn u=true:=by
 cases v with
 | non=>cases (show u=Value.none from r);rfl
 | bl b=>cases (show u=Value.bool b from r);rfl
 | int i=>obtain⟨t,e⟩:=(show ∃t,u=Value.int i t from r);cases e;rfl
 | str x=>obtain⟨t,e⟩:=(show ∃t,u=Value.str x t from r);cases e;rfl
 | byt b=>obtain⟨t,e⟩:=(show ∃t,u=Value.bytes b t from r);cases e;rfl
 | flt b=>obtain⟨t,e⟩:=(show ∃t,u=Value.float b t from r);cases e;rfl
 | ref a=>cases (show u=Value.ref a from r);rfl
 | ty n=>cases (show u=Value.type n from r);rfl
section
variable {P:Program} {w:World} {H H':Hp} {h h':Heap} {a C dx:Addr} {fs fs':List (Str × V)}
theorem jeB (hok:HOk P w H h) (e:H a=some (.ins C dx fs)):∃mA,ObjM h a dx C mA/\(∀f,RelO (fs.lookup f) (mA f))/\PySem.Within mA (fs.map (·.1))/\fs.length<=1000/\H dx=some (.own a):=by
 obtain⟨d,z,ne,ob,mA,n,r,q⟩:=(show ObjOk P w H h a (.ins C dx fs) from hok a _ e);exact⟨mA,⟨ob,n,ne⟩,r,q,z,d⟩
end
structure Cls (K:PySem.W.Frag) (C:Addr):Prop where
 pg:PySem.W.plainGet K C Str.empty=true
 hd:PySem.W.hasDictIn K C=true
 po:PySem.W.plainOver K C=true
 sa:PySem.W.findIn K (.ref C) "__setattr__"=some (some (.builtin "object.__setattr__"))
theorem Cls.get {K:PySem.W.Frag} {C:Addr} (c:Cls K C) (f:Str):PySem.W.plainGet K C f=true:=c.pg
def NoAttr (K:PySem.W.Frag) (C:Addr) (f:Str):Prop:=PySem.W.findIn K (.ref C) f=some none
theorem NoAttr.taker {K:PySem.W.Frag} {C:Addr} {f:Str} (n:NoAttr K C f):PySem.W.takerIn K C f=some none:=by
 unfold PySem.W.takerIn;rw[show PySem.W.findIn K (.ref C) f=some none from n];rfl
structure Meth (K:PySem.W.Frag) (C:Addr) (m:Str) (f:Addr):Prop where
 at_:PySem.W.findIn K (.ref C) m=some (some (.ref f))
 fn:PySem.W.isFn K (.ref f)=true
 kp:PySem.W.keepIn K (.ref f)=true
section
variable {X:Cx} {pins:List (Addr × Obj)} {σ:St} {H:Hp} {s:Shared} {a C dx:Addr} {fs:List (Str × V)} {f:Str} {v:V} {A:Around} {E:Value->Shared->Prop}
theorem jgz {b:Bool} {Q:Value->Shared->Prop} (I:Inv X pins σ H s) (e:H a=some (.ins C dx fs)) (c:Cls X.K C) (n:NoAttr X.K C f) (l:fs.lookup f=some v)
  (h:∀u s',Inv X pins σ H s'->RelV v u->Q u s'):wpAny (model X.prog X.w) A (getAttr (.ref a) f b) Q E s:=by
 obtain⟨mA,O,r,_,_,_⟩:=jeB I.hok e;obtain⟨u,hu,ru⟩:=RelO.some_of (v:=v) (o:=mA f) (by rw[<- l];exact r f);exact jjN I.kIn O (c.get f) c.hd n hu (jg6 ru) (h u _ (I.tok _) ru)
theorem jcB {m:Str} {g:Addr} {pl:Sem Bool} {Q:Value × List Value->Shared->Prop} (I:Inv X pins σ H s) (e:H a=some (.ins C dx fs)) (c:Cls X.K C) (k:Meth X.K C m g) (l:fs.lookup m=none)
  (h:Q (.ref g,[.ref a]) s):wpAny (model X.prog X.w) A (getMethod (.ref a) m pl) Q E s:=by
 obtain⟨mA,O,r,_,_,_⟩:=jeB I.hok e;have hn:mA m=none:=RelO.none_of (by rw[<- l];exact r m);exact jir I.kIn O (c.get m) k.at_ k.fn hn h
theorem jgA {y:V} {u:Value} {Q:Unit->Shared->Prop} (I:Inv X pins σ H s) (e:H a=some (.ins C dx fs)) (c:Cls X.K C) (n:NoAttr X.K C f) (hl:fs.length<1000) (ry:RelV y u)
  (h:∀s',Inv X pins σ (upd H a (.ins C dx (jef f y fs))) s'->Q () s'):wpAny (model X.prog X.w) A (setAttr (.ref a) f u) Q E s:=by
 obtain⟨mA,O,r,wi,_,ho⟩:=jeB I.hok e;have hz:(fs.map (·.1)).length<=sizeLine:=by rw[xaa,sizeLine_eq];omega
 refine jjO I.kIn O c.sa c.po n.taker c.hd wi hz fun h' O' sb=>h _ ?_;have hd:∃o,h'.get? dx=some o:=let ⟨o,_,_,e',_⟩:=O'.ns;⟨o,e'⟩;refine I.write (x:=a) (e:=dx) (by rw[e];exact True.intro) (.inr ho) (fun b q hb z=>(sb.2 b hb).trans z) hd ?_;refine⟨by rw[jat O.ne];exact ho,?_,O.ne,O'.obj,_,O'.ns,fun g=>?_,fun g hg=>?_⟩
 ·have:=jdO f y fs;omega
 ·show RelO ((jef f y fs).lookup g) (if g=f then some u else mA g);rw[jdM];by_cases q:g=f
  ·rw[if_pos q,if_pos q];exact ry
  ·rw[if_neg q,if_neg q];exact r g
 ·by_cases q:g=f
  ·rw[q];exact (jdN f y fs).1
  ·refine (jdN f y fs).2 g (wi g fun z=>hg ?_);show (if g=f then some u else mA g)=none;rw[if_neg q];exact z
theorem Inv.made (I:Inv X pins σ H s):Inv X pins σ (upd (upd H s.heap.objs.size (.own (s.heap.objs.size+1))) (s.heap.objs.size+1) (.ins C s.heap.objs.size []))
  { s with heap:=(s.heap.push PySem.W.emptyDict).push (PySem.W.instObj C s.heap.objs.size) }:=by
 have e1:(s.heap.push PySem.W.emptyDict).get? s.heap.objs.size=some PySem.W.emptyDict:=Heap.get?_push_size s.heap rfl;have e2:((s.heap.push PySem.W.emptyDict).push (PySem.W.instObj C s.heap.objs.size)).get? (s.heap.objs.size+1)=some (PySem.W.instObj C s.heap.objs.size):=by
  have:=Heap.get?_push_size (s.heap.push PySem.W.emptyDict) (o:=PySem.W.instObj C s.heap.objs.size) rfl
  rwa [Heap.size_push] at this
 have e3:(s.heap.push PySem.W.emptyDict).Ns s.heap.objs.size (fun _=>none):=⟨PySem.W.emptyDict,#[],_,e1,rfl,(fun e he=>absurd he (by simp)),fun _=>rfl⟩;have I1:=I.laid (a:=s.heap.objs.size) (o:=.own (s.heap.objs.size+1)) (h':=s.heap.push PySem.W.emptyDict) (t':=s.toks) (fun b u q=>Heap.get?_push_of_some _ q) (xac _) ⟨_,e1⟩;refine I1.laid (a:=s.heap.objs.size+1) (o:=.ins C s.heap.objs.size []) (t':=s.toks) (fun b u q=>Heap.get?_push_of_some _ q) (Nat.le_of_eq (Heap.size_push _ _)) ?_;have ne:s.heap.objs.size≠s.heap.objs.size+1:=xas (Nat.lt_succ_self _);refine⟨by rw[jat ne,upd_same],xaN _,ne,e2,fun _=>none,(Heap.Ns1.of_empty e3).at fun o q=>Heap.get?_push_of_some _ q,fun _=>True.intro,fun y hy=>absurd rfl hy⟩
theorem jjP {prog:Program} {w:World} {env:Env} {e:Expr} {f:Str} {pos:Pos} {s:Shared} {Q:Value->Shared->Prop} (hb:attributeBase e f env (eval e env)=eval e env)
  (h:wpAny (model prog w) A (eval e env) (fun o s₁=>wpAny (model prog w) A (getAttr o f true) Q E s₁) E s):wpAny (model prog w) A (eval (.Attribute e f pos) env) Q E s :=
 Attribute_any_ h (by rw[arm_eval_Attribute,hb])
end
def tFld (K:PySem.W.Frag) (ta:TE) (f:Str):TE:=fun σ H Q=>ta σ H fun x H1=>∃a C dx fs v,x=.ref a/\H1 a=some (.ins C dx fs)/\Cls K C/\NoAttr K C f/\fs.lookup f=some v/\Q v H1
def sFld (K:PySem.W.Frag) (ta tv:TE) (f:Str):TS:=fun D σ H=>tv σ H fun y H1=>ta σ H1 fun x H2=>∃a C dx fs,x=.ref a/\H2 a=some (.ins C dx fs)/\Cls K C/\NoAttr K C f/\fs.length<1000 /\
 D.nx σ (upd H2 a (.ins C dx (jef f y fs)))
section
variable {X:Cx} {o e value:Expr} {f:Str} {pos pos' tpos:Pos} {ta tv:TE}
theorem jcf (he:PE X e ta) (hb:attributeBase e f X.env (eval e X.env)=eval e X.env):PE X (.Attribute e f pos) (tFld X.K ta f):=by
 intro pins s σ H Q I h;refine jjP hb (thn (he pins s σ H _ I h) fun u s1 ⟨x,H1,I1,rx,a,C,dx,fs,v,ex,ea,c,n,l,q⟩=>?_);subst ex;obtain rfl:u=Value.ref a:=rx;exact jgz I1 ea c n l fun u' s2 I2 ru=>⟨v,H1,I2,ru,q⟩
theorem jf3 (ha:PE X o ta) (hv:PE X value tv) (hs:swapsWith value (some (.Attribute o f pos')) pos.line X.env=pure false):PS X (.Assign [.Attribute o f pos'] value pos) (sFld X.K ta tv f):=by
 intro pins s σ H D I h;refine plainObj_wpAny_Assign_Attribute (thn (hv pins s σ H _ I h) fun u s1 ⟨y,H1,I1,ry,q⟩=>thn (ha pins s1 σ H1 _ I1 q) fun ov s2 ⟨x,H2,I2,rx,a,C,dx,fs,ex,ea,c,n,l,q2⟩=>?_) hs;subst ex;obtain rfl:ov=Value.ref a:=rx;exact jgA I2 ea c n l ry fun s3 I3=>⟨σ,_,I3,q2⟩
end
section
variable {X:Cx} {pins:List (Addr × Obj)} {σ:St} {H:Hp} {s:Shared} {A:Around} {E:Value->Shared->Prop} {Q:Value->Shared->Prop} {c:Value} {b:Bool}
inductive TyOf (K:PySem.W.Frag) (H:Hp):V->Value->Prop where
 | non:TyOf K H .non (.type "NoneType")
 | bl (x:Bool):TyOf K H (.bl x) (.type "bool")
 | int (i:Int):TyOf K H (.int i) (.type "int")
 | str (x:Str):TyOf K H (.str x) (.type "str")
 | flt (x:UInt64):TyOf K H (.flt x) (.type "float")
 | lst {a:Addr} {xs:List V} (e:H a=some (.lst xs)):TyOf K H (.ref a) (.type "list")
 | frz {a:Addr} {o:Obj} {xs:List V} (e:H a=some (.frz o (.lst xs))):TyOf K H (.ref a) (.type "list")
 | tup {a:Addr} {xs:List V} (e:H a=some (.tup xs)):TyOf K H (.ref a) (.type "tuple")
 | dK {a:Addr} {kvs:List (Key × V)} (e:H a=some (.dK kvs)):TyOf K H (.ref a) (.type "dict")
 | dT {a:Addr} {kvs:List (List Key × V)} (e:H a=some (.dT kvs)):TyOf K H (.ref a) (.type "dict")
 | ins {a C dx:Addr} {fs:List (Str × V)} (e:H a=some (.ins C dx fs)) (cl:Cls K C) (ha:PySem.W.findIn K (.ref C) "__class__"=some (some (.builtin "object.__class__")))
   (hn:PySem.W.specialIn K (.builtin "object.__class__") "__get__"=some (some (.builtin "getset_descriptor.__get__"))) (htk:PySem.W.takesIn K (.builtin "object.__class__")=some true)
   (hm:PySem.W.mroIn K C (.type "object")=some true):TyOf K H (.ref a) (.ref C)
theorem jg7 {x:V} {u t:Value} (I:Inv X pins σ H s) (rx:RelV x u) (ty:TyOf X.K H x t) (e:PySem.W.kitOne X.K t c=some b) (h:∀tk,Q (.bool b) { s with toks:=tk }) :
    wpAny (model X.prog X.w) A (call (.builtin "isinstance") [u,c]) Q E s:=by
  cases ty with
  | non=>cases (show u=Value.none from rx);exact PySem.W.kia_one PySem.W.kitx_none I.kIn True.intro e (fun z=>nomatch z) h
  | bl y=>cases (show u=Value.bool y from rx);exact PySem.W.kia_one PySem.W.kitx_bool I.kIn True.intro e (fun z=>nomatch z) h
  | int i=>obtain⟨t,q⟩:=(show ∃t,u=Value.int i t from rx);cases q;exact PySem.W.kia_one PySem.W.kitx_int I.kIn True.intro e (fun z=>nomatch z) h
  | str y=>obtain⟨t,q⟩:=(show ∃t,u=Value.str y t from rx);cases q;exact PySem.W.kia_one PySem.W.kitx_str I.kIn True.intro e (fun z=>nomatch z) h
  | flt y=>obtain⟨t,q⟩:=(show ∃t,u=Value.float y t from rx);cases q;exact PySem.W.kia_one PySem.W.kitx_float I.kIn True.intro e (fun z=>nomatch z) h
  | @lst a xs ea =>
    cases (show u=Value.ref a from rx);obtain⟨_,_,n,_,h1⟩:=(show ObjOk X.prog X.w H s.heap a (.lst xs) from I.hok a _ ea);exact PySem.W.kia_one PySem.W.kitx_list I.kIn ⟨_,h1,rfl⟩ e (fun z=>nomatch z) h
  | @frz a ob xs ea =>
    cases (show u=Value.ref a from rx);obtain⟨_,_,_,n,_,h1⟩:=(show ObjOk X.prog X.w H s.heap a (.frz ob (.lst xs)) from I.hok a _ ea);exact PySem.W.kia_one PySem.W.kitx_list I.kIn ⟨_,h1,rfl⟩ e (fun z=>nomatch z) h
  | @tup a xs ea =>
    cases (show u=Value.ref a from rx);obtain⟨_,_,_,p⟩:=(show ObjOk X.prog X.w H s.heap a (.tup xs) from I.hok a _ ea);obtain⟨o,h1,h2,_⟩:=p;exact PySem.W.kia_one PySem.W.kitx_tuple I.kIn ⟨o,h1,h2⟩ e (fun z=>nomatch z) h
  | @dK a kvs ea =>
    cases (show u=Value.ref a from rx);obtain⟨_,_,vs,_,p⟩:=(show ObjOk X.prog X.w H s.heap a (.dK kvs) from I.hok a _ ea);obtain⟨o,es,ep,h1,h2,_⟩:=p;exact PySem.W.kia_one PySem.W.kitx_dict I.kIn ⟨o,h1,h2.1⟩ e (fun z=>nomatch z) h
  | @dT a kvs ea =>
    cases (show u=Value.ref a from rx);obtain⟨_,_,xs,_,o,es,ep,h1,h2,_⟩:=(show ObjOk X.prog X.w H s.heap a (.dT kvs) from I.hok a _ ea);exact PySem.W.kia_one PySem.W.kitx_dict I.kIn ⟨o,h1,h2.1⟩ e (fun z=>nomatch z) h
  | @ins a C dx fs ea cl ha hn htk hm =>
    cases (show u=Value.ref a from rx);obtain⟨mA,O,_⟩:=jeB I.hok ea;obtain⟨od,J,_⟩:=O.look;exact PySem.W.kia_one (PySem.W.kitx_own (cl.get _) cl.hd ha hn htk hm) I.kIn J e (fun z=>nomatch z) h
end
structure Room (k:Nat) (A:Around):Prop where
 hd:A.handled=none
 dp:A.depth+3*k+5<recursionLimit
 un:A.units+16*k+200<cLine
theorem Room.mono {j k:Nat} {A:Around} (r:Room k A) (h:j<=k):Room j A:=⟨r.hd,by have:=r.dp;omega,by have:=r.un;omega⟩
theorem Room.m {j k:Nat} {A:Around} (r:Room k A) (h:j≤k:=by decide):Room j A:=r.mono h
theorem Room.deeper {k:Nat} {A:Around} (r:Room (k+1) A) (env:Env):Room k (A.deeper env) :=
 ⟨r.hd,by have:=r.dp;show A.depth+1+3*k+5<_;omega,by have:=r.un;show A.units+3+16*k+200<_;omega⟩
theorem Room.in1 {k:Nat} {A:Around} (r:Room (k+1) A):Room k A.in1 :=
 ⟨r.hd,by have:=r.dp;show A.depth+3*k+5<_;omega,by have:=r.un;show A.units+1+16*k+200<_;omega⟩
theorem jgB {A:Around} {C:Addr} {us:List Value} {kw:List (Str × Value)}:(A.under (.builtin "type.__call__" ⟨.ref C::us,kw⟩)).depth=A.depth+1:=by
 first | rfl | simp [Around.under,Code.weight,Code.isCreation,Code.isGuard,Code.isCaller,Code.frames,Code.isFrame,guardIds]
theorem jgC {A:Around} {C:Addr} {us:List Value} {kw:List (Str × Value)}:(A.under (.builtin "type.__call__" ⟨.ref C::us,kw⟩)).units=A.units+1:=by
 first | rfl | simp [Around.under,Code.cUnits,Code.frames,Code.isFrame]
theorem Room.make {k:Nat} {A:Around} (r:Room (k+1) A) (C:Addr) (us:List Value) (kw:List (Str × Value)):Room k (A.under (.builtin "type.__call__" ⟨.ref C::us,kw⟩)) :=
 ⟨r.hd,by have:=r.dp;rw[jgB];omega,by have:=r.un;rw[jgC];omega⟩
theorem Room.depth {k:Nat} {A:Around} (r:Room k A):A.depth<recursionLimit:=by have:=r.dp;omega
theorem Room.units {k:Nat} {A:Around} (r:Room k A):A.units+64<cLine:=by have:=r.un;omega
def jgD:TA:=fun _ H Q=>Q [] H
def jeC (ta:TE) (tr:TA):TA:=fun σ H Q=>ta σ H fun x H1=>tr σ H1 fun xs H2=>Q (x::xs) H2
section
variable {X:Cx} {e:Expr} {es:List Expr} {te:TE} {t:TA} {pos:Pos}
theorem jac:PA X [] jgD:=fun _ _ _ _ H Q I h=>Calls.spliced_nil ⟨[],H,I,.nil,h⟩
theorem jaa (ha:PE X e te) (hr:PA X es t) (hs:starEach (e::es) X.env=(false,eval e X.env)::starEach es X.env:=by rfl):PA X (e::es) (jeC te t):=by
 intro pos pins s σ H Q I h;rw[hs];show wpAny _ _ (spliced ((false,eval e X.env)::backTo pos (starEach es X.env))) _ _ s;refine Calls.spliced_cons (thn (ha pins s σ H _ I h) fun u s1 ⟨x,H1,I1,r1,q1⟩=>?_);exact thn (hr pos pins s1 σ H1 _ I1 q1) fun us s2 ⟨xs,H2,I2,r2,q2⟩=>⟨x::xs,H2,I2,.cons r1 r2,q2⟩
def jjQ (t:TA):TE:=fun σ H Q=>t σ H fun xs H1=>xs.length<=sizeLine/\∀p,H1 p=none->Q (.ref p) (upd H1 p (.tup xs))
def jjR (t:TA):TE:=fun σ H Q=>t σ H fun xs H1=>xs.length<=sizeLine/\∀p,H1 p=none->Q (.ref p) (upd H1 p (.lst xs))
theorem ja5 {x1} (h:PA X es t):PE X (.Tuple es x1 pos) (jjQ t):=by
 intro pins s σ H Q I hq;refine wpAny_Tuple_spliced (thn (h pos pins s σ H _ I hq) fun us s1 ⟨xs,H1,I1,r,z,q⟩=>⟨by rw[<- r.length];exact z,?_⟩);have hf:H1 s1.heap.objs.size=none:=I1.hok.fresh (xac _);refine⟨.ref s1.heap.objs.size,upd H1 s1.heap.objs.size (.tup xs),I1.laid (t':=s1.toks) (fun b u e=>Heap.get?_push_of_some _ e) (xac _) ?_,rfl,q _ hf⟩;exact⟨z,us,r,⟨_,Heap.get?_push_size _ rfl,rfl,_,rfl⟩⟩
theorem jaN (h:PA X es t):PE X (.List es pos) (jjR t):=by
 intro pins s σ H Q I hq;refine wpAny_List_spliced (thn (h pos pins s σ H _ I hq) fun us s1 ⟨xs,H1,I1,r,z,q⟩=>⟨by rw[<- r.length];exact z,?_⟩);have hf:H1 s1.heap.objs.size=none:=I1.hok.fresh (xac _);refine⟨.ref s1.heap.objs.size,upd H1 s1.heap.objs.size (.lst xs),I1.laid (t':=s1.toks) (fun b u e=>Heap.get?_push_of_some _ e) (xac _) ?_,rfl,q _ hf⟩;exact⟨z,us,0,r,Heap.get?_push_size _ rfl⟩
end
abbrev Sp:=List V->Hp->VK->XK->Prop
abbrev CXT:=List Env->Hp->Shared->XK->Value->Shared->Prop
structure Env0 (P:Program) (w:World) (K:PySem.W.Frag) (mg:Str->Option Value) (base:Heap) (A:Around) (outer:List Env) (s:Shared) (H:Hp):Prop where
 frames:A.frames=some outer
 mod:Mod K mg base
 bs:∀b o,base.get? b=some o->s.heap.get? b=some o/\H b=none
 bsz:base.objs.size<=s.heap.objs.size
 funs:s.heap.FunFrames base outer
 frf:∀b∈frs outer,H b=none
 hok:HOk P w H s.heap
 bare:AllBare s.gens
def CE (outer:List Env) (P:Program) (w:World) (H:Hp) (s:Shared) (Q:VK) (u:Value) (s':Shared):Prop :=
 ∃v H',s'.os=s.os/\AllBare s'.gens/\Un (frs outer) [] H H' s.heap s'.heap/\HOk P w H' s'.heap/\RelV v u/\Q v H'
def CR (CX:CXT) (outer:List Env) (P:Program) (w:World) (H:Hp) (s:Shared) (Q:VK) (E:XK) (r:Result) (s':Shared):Prop :=
 match r with
 | .ok (.ret u)=>CE outer P w H s Q u s'
 | .ok _=>False
 | .error e=>CX outer H s E e s'
structure FnOk (P:Program) (w:World) (K:PySem.W.Frag) (mg:Str->Option Value) (base:Heap) (CX:CXT) (k:Nat) (f:Addr) (fd:FuncData) (ps:List Str) (sp:Sp):Prop where
 len:∀vs H Q E,sp vs H Q E->vs.length=ps.length
 run:∀(A:Around) (outer:List Env) (s:Shared) (H:Hp) (args:Args) (us:List Value) (vs:List V) (Q:VK) (E:XK),Room k A->Env0 P w K mg base A outer s H->BindsTo s fd args (ps.zip us)->Vals vs us->sp vs H Q E ->
  codeAny (model P w) A (.call (.ref f) args) (CR CX outer P w H s Q E) s
theorem FnOk.mono {P:Program} {w:World} {K:PySem.W.Frag} {mg:Str->Option Value} {base:Heap} {CX:CXT} {j k:Nat} {f:Addr} {fd:FuncData} {ps:List Str} {sp:Sp} (F:FnOk P w K mg base CX j f fd ps sp) (h:j<=k) :
  FnOk P w K mg base CX k f fd ps sp:=⟨F.len,fun A outer s H args us vs Q E hr=>F.run A outer s H args us vs Q E (hr.mono h)⟩
theorem Env0.make {P:Program} {w:World} {K:PySem.W.Frag} {mg:Str->Option Value} {base:Heap} {A:Around} {outer:List Env} {s:Shared} {H:Hp} (e:Env0 P w K mg base A outer s H) (C:Addr) (us:List Value) (kw:List (Str × Value)) :
  Env0 P w K mg base (A.under (.builtin "type.__call__" ⟨.ref C::us,kw⟩)) outer s H:=⟨by first | exact e.frames | (simpa [Around.under,Code.envs,Code.isFrame,pushEnvs] using e.frames),e.mod,e.bs,e.bsz,e.funs,e.frf,e.hok,e.bare⟩
theorem Env0.in1 {P:Program} {w:World} {K:PySem.W.Frag} {mg:Str->Option Value} {base:Heap} {A:Around} {outer:List Env} {s:Shared} {H:Hp} (e:Env0 P w K mg base A outer s H) :
  Env0 P w K mg base A.in1 outer s H:=⟨e.frames,e.mod,e.bs,e.bsz,e.funs,e.frf,e.hok,e.bare⟩
section
variable {X:Cx} {pins:List (Addr × Obj)} {σ:St} {H:Hp} {s s':Shared}
theorem Inv.env0 (I:Inv X pins σ H s):Env0 X.prog X.w X.K X.mg X.base X.A X.stack s H :=
 ⟨I.ok.frames,I.ok.mod,I.bs,xaw I.ok.bsz I.sz,I.stack,I.stkFree,I.hok,I.bare⟩
theorem Inv.after {Q:VK} {u:Value} (I:Inv X pins σ H s) (h:CE X.stack X.prog X.w H s Q u s'):EP X pins σ Q u s':=by
 obtain⟨v,H',os,bare,un,hok,r,q⟩:=h;obtain⟨hh,g,d,t,os'⟩:=s';obtain rfl:os'=s.os:=os;exact⟨v,H',I.call (h':=hh) (g':=g) (d':=d) (t':=t) (ch:=[]) un hok bare (fun b z=>absurd z (by simp)),r,q⟩
end
def jfx (sp:Sp) (dvs:List V) (E:XK) (t:TA):TE:=fun σ H Q=>t σ H fun vs H1=>sp (vs++dvs) H1 Q E
def jit (C:Addr) (m:Str) (sp:Sp) (dvs:List V) (E:XK) (ta:TE) (t:TA):TE:=fun σ H Q=>ta σ H fun x H1=>∃a dx fs,x=.ref a/\H1 a=some (.ins C dx fs)/\fs.lookup m=none /\
 t σ H1 fun vs H2=>sp (x::(vs++dvs)) H2 Q E
def jkX (C:Addr) (sp:Sp) (dvs:List V) (E:XK) (t:TA):TE:=fun σ H Q=>t σ H fun vs H1=>∀x dx,H1 x=none->H1 dx=none->dx≠x ->
 sp (.ref x::(vs++dvs)) (upd (upd H1 dx (.own x)) x (.ins C dx [])) (fun v H2=>v=.non/\Q (.ref x) H2) E
def Binds (K:PySem.W.Frag) (fd:FuncData) (ps:List Str) (ds:List Value):Prop :=
 ∀(s:Shared) (us:List Value),K.In s.heap->(us++ds).length=ps.length->BindsTo s fd ⟨us,[]⟩ (ps.zip (us++ds))
theorem Binds.all {K:PySem.W.Frag} {fd:FuncData} {ps:List Str} (h:∀us:List Value,us.length=ps.length->bindArgs fd ⟨us,[]⟩=pure (ps.zip us)):Binds K fd ps []:=fun s us _ hl=>by
 rw[List.append_nil] at hl |-
 exact .of_eq (h us hl)
def jb8 (CX:CXT) (X:Cx) (E:XK):Prop:=∀(pins:List (Addr × Obj)) (σ:St) (H:Hp) (s:Shared) (e:Value) (s':Shared),Inv X pins σ H s->CX X.stack H s E e s'->X.xe e s'
section
variable {X:Cx} {CX:CXT} {k:Nat} {f C:Addr} {fd:FuncData} {ps:List Str} {sp:Sp} {dvs:List V} {ds:List Value} {E:XK} {x m:Str} {p pos apos:Pos} {e o:Expr} {es:List Expr} {ta:TE} {t:TA}
theorem jg8 {pins:List (Addr × Obj)} {σ:St} {H:Hp} {s:Shared} {Q:VK} {us:List Value} {vs:List V} (F:FnOk X.prog X.w X.K X.mg X.base CX k f fd ps sp) (hr:Room k X.A) (hb:Binds X.K fd ps ds) (hd:Vals dvs ds) (hx:jb8 CX X E)
    (I:Inv X pins σ H s) (r:Vals vs us) (h:sp (vs++dvs) H Q E):wpAny (model X.prog X.w) X.A (call (.ref f) us) (EP X pins σ Q) X.xe s:=by
  have r2:Vals (vs++dvs) (us++ds):=r.append hd;have hl:(us++ds).length=ps.length:=by rw[<- r2.length];exact F.len _ _ _ _ h
  refine wpAny_call (codeAny_mono (F.run X.A X.stack s H ⟨us,[]⟩ (us++ds) (vs++dvs) Q E hr I.env0 (hb s us I.kIn hl) r2 h) fun r s' hq=>?_);cases r with
  | error e=>exact hx pins σ H s e s' I hq
  | ok fl =>
    cases fl with
    | ret u=>exact I.after hq
    | next=>exact False.elim hq
    | brk=>exact False.elim hq
    | cont=>exact False.elim hq
theorem jjS (F:FnOk X.prog X.w X.K X.mg X.base CX k f fd ps sp) (hr:Room k X.A) (hg:Gl X x) (hm:X.mg x=some (.ref f)) (hk:PySem.W.keepIn X.K (.ref f)=true) (hb:Binds X.K fd ps ds) (hd:Vals dvs ds) (hx:jb8 CX X E)
  (ha:PA X (e::es) t) (hdb:(x==("__debug__":Str))=false:=by decide) (he:starEach (e::es) X.env=(false,eval e X.env)::starEach es X.env:=by rfl) (hpl:(backTo pos (starEach es X.env)).any (·.1)=false:=by rfl) :
  PE X (.Call (.Name x p) (e::es) [] pos) (jfx sp dvs E t):=by
 intro pins s σ H Q I h;refine wpAny_Call_Name_kw (jdf I hg hm ?_ hdb);refine PySem.W.callWith_K (h₀:=X.base) I.ok.mod.kin hk (thn (ha pos pins s σ H _ I h) fun us s1 ⟨vs,H1,I1,r,q⟩=>⟨I1.kIn,?_⟩) he hpl;exact jg8 F hr hb hd hx I1 r q
theorem jjT {pl:Sem Bool} (he:PE X o ta) (c:Cls X.K C) (hm:Meth X.K C m f) (F:FnOk X.prog X.w X.K X.mg X.base CX k f fd ps sp) (hr:Room k X.A) (hb:Binds X.K fd ps ds) (hd:Vals dvs ds) (hx:jb8 CX X E) (ha:PA X (e::es) t)
  (hst:starEach (e::es) X.env=(false,eval e X.env)::starEach es X.env:=by rfl) (hpl:(backTo pos (starEach es X.env)).any (·.1)=false:=by rfl)
  (ht:eval (.Call (.Attribute o m apos) (e::es) [] pos) X.env=(do
   let ov <- eval o X.env
   standAt apos.atName
   let (f,first) <- holding [ov] (getMethod ov m pl)
   callWith pos f first (backTo pos (starEach (e::es) X.env)) (backToKw pos (keywordEach [] X.env))):=by rfl) :
  PE X (.Call (.Attribute o m apos) (e::es) [] pos) (jit C m sp dvs E ta t):=by
 intro pins s σ H Q I h;refine PySem.W.methodCall_KW (pl:=pl) (thn (he pins s σ H _ I h) fun u s1 ⟨x,H1,I1,rx,a,dx,fs,ex,ea,l,q⟩=>?_) ht;subst ex;obtain rfl:u=Value.ref a:=rx;refine jcB I1 ea c hm l ?_;refine PySem.W.callWith_K (first:=[.ref a]) (h₀:=X.base) I.ok.mod.kin hm.kp (thn (ha pos pins s1 σ H1 _ I1 q) fun us s2 ⟨vs,H2,I2,r,q2⟩=>⟨I2.kIn,?_⟩) hst hpl;exact jg8 (us:=.ref a::us) (vs:=.ref a::vs) F hr hb hd hx I2 (.cons rfl r) q2
theorem jiu {pl:Sem Bool} (he:PE X o ta) (c:Cls X.K C) (hm:Meth X.K C m f) (F:FnOk X.prog X.w X.K X.mg X.base CX k f fd ps sp) (hr:Room k X.A) (hb:Binds X.K fd ps ds) (hd:Vals dvs ds) (hx:jb8 CX X E)
  (ht:eval (.Call (.Attribute o m apos) [] [] pos) X.env=(do
   let ov <- eval o X.env
   standAt apos.atName
   let (f,first) <- holding [ov] (getMethod ov m pl)
   callWith pos f first (backTo pos (starEach [] X.env)) (backToKw pos (keywordEach [] X.env))):=by rfl) :
  PE X (.Call (.Attribute o m apos) [] [] pos) (jit C m sp dvs E ta jgD):=by
 intro pins s σ H Q I h;refine PySem.W.methodCall_KW (pl:=pl) (thn (he pins s σ H _ I h) fun u s1 ⟨x,H1,I1,rx,a,dx,fs,ex,ea,l,q⟩=>?_) ht;subst ex;obtain rfl:u=Value.ref a:=rx;refine jcB I1 ea c hm l ?_;exact PySem.W.callWith_K0 (first:=[.ref a]) I1.kIn hm.kp (jg8 (us:=[.ref a]) (vs:=[.ref a]) F hr hb hd hx I1 (.cons rfl .nil) q)
structure Mk (K:PySem.W.Frag) (C f:Addr):Prop where
 makes:PySem.W.makesIn K C=true
 init:PySem.W.findIn K (.ref C) "__init__"=some (some (.ref f))
 fn:PySem.W.isFn K (.ref f)=true
 kp:PySem.W.keepIn K (.ref C)=true
theorem jiv {pins:List (Addr × Obj)} {σ:St} {H:Hp} {s:Shared} {Q:VK} {us:List Value} {vs:List V} (M:Mk X.K C f) (F:FnOk X.prog X.w X.K X.mg X.base CX k f fd ps sp) (hr:Room (k+1) X.A) (hb:Binds X.K fd ps ds) (hd:Vals dvs ds)
    (hx:jb8 CX X E) (I:Inv X pins σ H s) (r:Vals vs us)
    (h:∀x dx,H x=none->H dx=none->dx≠x->sp (.ref x::(vs++dvs)) (upd (upd H dx (.own x)) x (.ins C dx [])) (fun v H2=>v=.non/\Q (.ref x) H2) E) :
    wpAny (model X.prog X.w) X.A (call (.ref C) us) (EP X pins σ Q) X.xe s:=by
  have hq:=h (s.heap.objs.size+1) s.heap.objs.size (I.hok.fresh (xa8 _)) (I.hok.fresh (xac _)) (xas (Nat.lt_succ_self _));have I2:=Inv.made (C:=C) I;have r2:Vals (V.ref (s.heap.objs.size+1)::(vs++dvs)) (Value.ref (s.heap.objs.size+1)::(us++ds)):=.cons rfl (r.append hd);have hl:(Value.ref (s.heap.objs.size+1)::us++ds).length=ps.length:=by
    have e:=r2.length;rw[F.len _ _ _ _ hq] at e;exact e.symm
  refine wpAny_call (jis (f:=f) I.kIn M.makes M.init (beq_iff_eq.mp M.fn) (codeAny_mono (F.run _ X.stack _ _ ⟨Value.ref (s.heap.objs.size+1)::us,[]⟩ (Value.ref (s.heap.objs.size+1)::(us++ds)) _ _ E (hr.make C us [])
    (I2.env0.make C us []) (hb _ (Value.ref (s.heap.objs.size+1)::us) I2.kIn hl) r2 hq) fun r s' hq'=>?_))
  cases r with
  | error e=>exact hx pins σ _ _ e s' I2 hq'
  | ok fl =>
    cases fl with
    | ret u =>
      obtain⟨v,H',I3,rv,ev,q3⟩:=I2.after hq';subst ev;exact⟨rv,⟨V.ref (s.heap.objs.size+1),H',I3,rfl,q3⟩⟩
    | next=>exact False.elim hq'
    | brk=>exact False.elim hq'
    | cont=>exact False.elim hq'
theorem jiw (M:Mk X.K C f) (F:FnOk X.prog X.w X.K X.mg X.base CX k f fd ps sp) (hr:Room (k+1) X.A) (hg:Gl X x) (hm:X.mg x=some (.ref C)) (hb:Binds X.K fd ps ds) (hd:Vals dvs ds) (hx:jb8 CX X E)
  (hdb:(x==("__debug__":Str))=false:=by decide):PE X (.Call (.Name x p) [] [] pos) (jkX C sp dvs E jgD):=by
 intro pins s σ H Q I h;refine wpAny_Call_Name_kw (jdf I hg hm ?_ hdb);exact PySem.W.callWith_K0 I.kIn M.kp (jiv (us:=[]) M F hr hb hd hx I .nil h)
end
section
variable {X:Cx} {CX:CXT} {k:Nat} {f C:Addr} {fd:FuncData} {ps ks:List Str} {sp:Sp} {E:XK} {x m:Str} {p pos apos kpos:Pos} {e o:Expr} {es:List Expr} {kws:List Keyword} {te ta:TE} {t tk:TA} {nm:Option Str}
structure KBinds (K:PySem.W.Frag) (fd:FuncData) (ps ks:List Str) (g:List Value->List Value->List Value) (gV:List V->List V->List V):Prop where
 to:∀(s:Shared) (us ws:List Value),K.In s.heap->(g us ws).length=ps.length->BindsTo s fd ⟨us,ks.zip ws⟩ (ps.zip (g us ws))
 rel:∀{vs:List V} {us:List Value} {zs:List V} {ws:List Value},Vals vs us->Vals zs ws->Vals (gV vs zs) (g us ws)
variable {g:List Value->List Value->List Value} {gV:List V->List V->List V}
end
structure FnScope (N P:List Str) (sc:Scope):Prop where
 kind:sc.kind=.function
 co:sc.isCoroutine=false
 gen:sc.isGenerator=false
 nd:N.Nodup
 pre:N.take P.length=P
 par:∀x∈P,sc.names.lookup x=some .local\/sc.names.lookup x=some .cell
 nofree:∀y∈sc.names,y.2≠.free
theorem je2 {kindOf:Str->Option NameKind} {x:Str}:∀{binds:List (Str × Value)} {m:Str->Option Value},(∀v,(x,v)∉binds)->bindL kindOf binds m x=m x
  | [],_,_=>rfl
  | (n, v) :: r, m, h => by
    unfold bindL;rw[je2 fun w hw=>h w (xar _ hw)];split
    . have:x≠n:=by rintro rfl; exact h v xaE
      simp [this]
    . rfl
theorem je3 {kindOf:Str->Option NameKind} {x:Str}:∀{binds:List (Str × Value)} {m:Str->Option Value},(∀v,(x,v)∉binds)->bindC kindOf binds m x=m x
  | [],_,_=>rfl
  | (n, v) :: r, m, h => by
    unfold bindC;rw[je3 fun w hw=>h w (xar _ hw)];split
    . rfl
    . have:x≠n:=by rintro rfl; exact h v xaE
      simp [this]
theorem jdP {kindOf:Str->Option NameKind} {x:Str} {v:Value}:∀{P:List Str} {vs:List Value} {i:Nat} {m:Str->Option Value},P.Nodup->P[i]?=some x->vs[i]?=some v->kindOf x=some .local ->
    bindL kindOf (P.zip vs) m x=some v
  | [],_,_,_,_,h,_,_=>by simp at h
  | _::_,[],_,_,_,_,h,_=>by simp at h
  | p :: P, w :: vs, 0, m, nd, h1, h2, hk => by
    simp at h1 h2;subst h1;subst h2;show bindL kindOf ((p,w)::P.zip vs) m p=_;unfold bindL;rw[je2 fun v hv=>(xbr.mp nd).1 (xbs hv).1,if_pos hk];simp
  | p :: P, w :: vs, i + 1, m, nd, h1, h2, hk => by
    show bindL kindOf ((p,w)::P.zip vs) m x=_;unfold bindL;exact jdP (i:=i) (xbr.mp nd).2 (by simpa using h1) (by simpa using h2) hk
theorem jdQ {kindOf:Str->Option NameKind} {x:Str} {v:Value}:∀{P:List Str} {vs:List Value} {i:Nat} {m:Str->Option Value},P.Nodup->P[i]?=some x->vs[i]?=some v->kindOf x≠some .local ->
    bindC kindOf (P.zip vs) m x=some v
  | [],_,_,_,_,h,_,_=>by simp at h
  | _::_,[],_,_,_,_,h,_=>by simp at h
  | p :: P, w :: vs, 0, m, nd, h1, h2, hk => by
    simp at h1 h2;subst h1;subst h2;show bindC kindOf ((p,w)::P.zip vs) m p=_;unfold bindC;rw[je3 fun v hv=>(xbr.mp nd).1 (xbs hv).1,if_neg hk];simp
  | p :: P, w :: vs, i + 1, m, nd, h1, h2, hk => by
    show bindC kindOf ((p,w)::P.zip vs) m x=_;unfold bindC;exact jdQ (i:=i) (xbr.mp nd).2 (by simpa using h1) (by simpa using h2) hk
def start (N:List Str) (vs:List V):St:=vs.map some++List.replicate (N.length-vs.length) none
def jfu (CX:CXT) (P:Program) (w:World) (K:PySem.W.Frag) (mg:Str->Option Value) (base:Heap) (N:List Str) (qual:Str) (scope:Scope) (f:Addr) (cd:Value) (A:Around) (outer:List Env) (s:Shared) (H:Hp) (E:XK):Cx where
 prog:=P
 w:=w
 K:=K
 mg:=mg
 base:=base
 A:=A.deeper (envOfC qual scope s.heap.objs.size f cd)
 N:=N
 s₀:=s
 H₀:=H
 env:=envOfC qual scope s.heap.objs.size f cd
 outer:=outer
 stack:=envOfC qual scope s.heap.objs.size f cd::outer
 ex:=[]
 calm:=true
 fn:=fun _=>true
 pn:=[]
 xe:=fun e s'=>wpAny (model P w) (A.deeper (envOfC qual scope s.heap.objs.size f cd)) (leaving (envOfC qual scope s.heap.objs.size f cd) e) (fun _ s''=>CX outer H s E e s'') (fun e' s''=>CX outer H s E e' s'') s'
theorem jdJ {sc:Scope} {n:Nat} {x:Str} (h:sc.names.lookup x=some .cell):∃c,(cellsFrom n sc.names []).lookup x=some c:=by
 have q:=PySem.W.cellsFrom_some sc.names n [] (.inl h);exact xa9.mp q
theorem jg9 {CX:CXT} {P:Program} {w:World} {K:PySem.W.Frag} {mg:Str->Option Value} {base:Heap} {N ps:List Str} {qual:Str} {scope:Scope} {f:Addr} {cd:Value} {A:Around} {outer:List Env} {s s1:Shared} {H:Hp} {E:XK} {us:List Value} {vs:List V}
  (S:FnScope N ps scope) (hd:A.handled=none) (e0:Env0 P w K mg base A outer s H) (hl:vs.length=ps.length) (r:Vals vs us)
  (x:InCallC s s.heap.objs.size (bindL (envOfC qual scope s.heap.objs.size f cd).kindOf (ps.zip us) fun _=>none) (cellsFrom (s.heap.objs.size+1) scope.names []) (bindC (envOfC qual scope s.heap.objs.size f cd).kindOf (ps.zip us) fun _=>none) s1) :
  Inv (jfu CX P w K mg base N qual scope f cd A outer s H E) [] (start N vs) H s1:=by
 have hpl:ps.length<=N.length:=by have:=congrArg List.length S.pre;rw[xag] at this;omega
 obtain⟨h1,tk,rfl,hk⟩:=x.done;have noA:∀b:Addr,b∉(jfu CX P w K mg base N qual scope f cd A outer s H E).ex:=fun b z=>absurd (show b∈([]:List Addr) from z) (by simp);refine⟨⟨e0.mod,S.kind,rfl,rfl,xac _,fun y z c h1 h2=>?_,fun y hy=>?_,fun y c _ h=>?_,fun _=>hd,Around.frames_deeper e0.frames,.inr ⟨rfl,rfl⟩,fun b z=>absurd z (noA b),e0.bs,e0.bsz,fun b _ _=>noA b,fun b z=>absurd z (noA b),e0.funs,e0.frf⟩,
  rfl,e0.bare,Un.kept hk,⟨_,x.toInCall.ns,fun i y v h1 h2 h3=>?_⟩,fun y c h=>⟨_,x.cell y c h⟩,e0.hok.fresh (xac _),fun y c h=>?_,fun p hp=>absurd (show p∈([]:List (Addr × Obj)) from hp) (by simp),e0.hok.kept hk,?_⟩
 ·exact name_of_addr x.apart (PySem.mem_of_lookup h1) (PySem.mem_of_lookup h2)
 ·have hy:scope.names.lookup y=some .cell\/scope.names.lookup y=some .free:=hy;rcases hy with hy | hy
  ·exact jdJ hy
  ·exact absurd rfl (S.nofree _ (PySem.mem_of_lookup hy))
 ·exact xaF (x.above y c (PySem.mem_of_lookup h))
 ·have hi:i<vs.length:=by
   unfold start at h2;by_cases hi:i<vs.length
   ·exact hi
   ·rw[xaC (by simpa using hi)] at h2;rw[xbd] at h2;split at h2<;>cases h2
  have ha:vs[i]?=some v:=by
   unfold start at h2;rw[xaA (by simpa using hi),xak] at h2;cases e:vs[i]? with
   | none=>rw[e] at h2;cases h2
   | some a=>rw[e] at h2;cases h2;rfl
  obtain⟨u,hu,rv⟩:=r.get ha;have hp:ps[i]?=some y:=by
   rw[<- S.pre,xba (by omega)];exact h1
  have ndP:ps.Nodup:=by rw[<- S.pre];exact S.nd.sublist (List.take_sublist _ _)
  refine⟨u,rv,?_⟩;rcases S.par y (xay hp) with k | k
  ·exact .inl ⟨k,jdP ndP hp hu k⟩
  ·obtain⟨c,e⟩:=jdJ (n:=s.heap.objs.size+1) k;refine .inr ⟨.inl k,c,e,?_⟩;have q:=x.cell y c e;rw[jdQ ndP hp hu (by show scope.names.lookup y≠_;rw[k];decide)] at q;exact q
 ·exact e0.hok.fresh (xaF (x.above y c (PySem.mem_of_lookup h)))
 ·unfold start;show _=N.length;rw[xab,xaa,xaL];omega
theorem jkY {CX:CXT} {P:Program} {w:World} {K:PySem.W.Frag} {mg:Str->Option Value} {base:Heap} {k:Nat} {f:Addr} {name qual:Str} {params:Arguments} {body:List Stmt} {scope:Scope} {dV kV doc pm cdv ct oc:Value} {an od:Option Addr}
    {osl:Array (Option Value)} {N ps:List Str} {sp:Sp} (lk:K.lookup f=some ⟨oc,od,.func (PySem.W.fnOf name qual params body scope dV kV doc pm an cdv ct),osl⟩) (hcd:PySem.W.codeIn K cdv qual=true) (S:FnScope N ps scope)
    (len:∀vs H Q E,sp vs H Q E->vs.length=ps.length)
    (hbody:∀(A:Around) (outer:List Env) (s:Shared) (H:Hp) (vs:List V) (Q:VK) (E:XK),Room k (A.deeper (envOfC qual scope s.heap.objs.size f cdv))->sp vs H Q E ->
      ∃t,PSs (jfu CX P w K mg base N qual scope f cdv A outer s H E) body t/\t { nx:=fun _ H'=>Q .non H',rt:=Q } (start N vs) H) :
    FnOk P w K mg base CX (k+1) f (PySem.W.fnOf name qual params body scope dV kV doc pm an cdv ct) ps sp:=by
  refine⟨len,fun A outer s H args us vs Q E hr e0 hb r hsp=>?_⟩;have hl:=len _ _ _ _ hsp;have KX:K.In s.heap:=e0.mod.kin.keeps fun b o e=>(e0.bs b o e).1;have lim:s.heap.NoLimit:=e0.mod.nolimit.keeps fun b o e=>(e0.bs b o e).1;have hkind:∀y∈ps.zip us,scope.names.lookup y.1=some .local\/(scope.names.lookup y.1=some .cell/\((cellsFrom (s.heap.objs.size+1) scope.names []).lookup y.1).isSome=true):=fun ⟨n,v⟩ hy=>by
    rcases S.par n (xbs hy).1 with q | q
    . exact .inl q
    . exact .inr ⟨q,PySem.W.cellsFrom_some _ _ _ (.inl q)⟩
  refine codeAny_call_function hr.depth (KX _ _ lk) rfl S.co S.gen rfl (PySem.W.codeRec_of KX hcd) (hb _ _ _ _ ?_);refine wpAny_newFunctionEnv_cells S.kind hkind fun env he s1 x=>?_;subst he;refine⟨lim.keeps x.toInCall.keep,codeAny_func ?_⟩;obtain⟨t,ht,hq⟩:=hbody A outer s H vs Q E (hr.deeper _) hsp;have I:Inv (jfu CX P w K mg base N qual scope f cdv A outer s H E) [] (start N vs) H s1:=jg9 S hr.hd e0 hl r x;refine wpAny_mono (ht [] s1 (start N vs) H _ I hq) (fun fl s' hs=>?_) fun e s' hs=>hs;have fin:∀{σ':St} {H':Hp} {v:V} {u:Value},Inv (jfu CX P w K mg base N qual scope f cdv A outer s H E) [] σ' H' s'->RelV v u->Q v H'->CE outer P w H s Q u s' :=
    fun {σ' H' v u} J rv q=>⟨v,H',J.os,J.bare,J.base,J.hok,rv,q⟩
  cases fl with
  | ret u =>
    obtain⟨v,σ',H',J,rv,q⟩:=hs;exact fin J rv q
  | next =>
    obtain⟨σ',H',J,q⟩:=hs;exact fin (v:=V.non) (u:=Value.none) J rfl q
  | brk =>
    obtain⟨_,_,_,q⟩:=hs;exact False.elim q
  | cont =>
    obtain⟨_,_,_,q⟩:=hs;exact False.elim q
section
variable {X:Cx} {x:Str} {p pos:Pos} {e:Expr} {es:List Expr} {t:TA} {id T:String} {r:List V->Hp->VK->Prop}
def tCB (r:List V->Hp->VK->Prop) (t:TA):TE:=fun σ H Q=>t σ H fun vs H1=>r vs H1 Q
theorem jau (hc:jcQ X (.builtin id) r) (hg:Gl X x) (hm:X.mg x=none) (hv:bootBuiltins x=some (.builtin id)) (ha:PA X (e::es) t) (hn:x≠"__name__":=by decide) (hdb:(x==("__debug__":Str))=false:=by decide)
  (he:starEach (e::es) X.env=(false,eval e X.env)::starEach es X.env:=by rfl) (hpl:(backTo pos (starEach es X.env)).any (·.1)=false:=by rfl):PE X (.Call (.Name x p) (e::es) [] pos) (tCB r t):=by
 intro pins s σ H Q I h;refine wpAny_Call_Name_kw (jdL I hg hm hv ?_ hn hdb);exact PyProof.Rows.callWith_builtin1 (thn (ha pos pins s σ H _ I h) fun us s1 ⟨vs,H1,I1,r1,q1⟩=>hc pins s1 σ H1 vs us Q I1 r1 q1) he hpl
theorem jbc (hc:jcQ X (.type T) r) (hg:Gl X x) (hm:X.mg x=none) (hv:bootBuiltins x=some (.type T)) (ha:PA X (e::es) t) (hn:x≠"__name__":=by decide) (hdb:(x==("__debug__":Str))=false:=by decide)
  (he:starEach (e::es) X.env=(false,eval e X.env)::starEach es X.env:=by rfl) (hpl:(backTo pos (starEach es X.env)).any (·.1)=false:=by rfl):PE X (.Call (.Name x p) (e::es) [] pos) (tCB r t):=by
 intro pins s σ H Q I h;refine wpAny_Call_Name_kw (jdL I hg hm hv ?_ hn hdb);exact PyProof.Rows.callWith_type1 (thn (ha pos pins s σ H _ I h) fun us s1 ⟨vs,H1,I1,r1,q1⟩=>hc pins s1 σ H1 vs us Q I1 r1 q1) he hpl
end
end L2
namespace HT
open PySem PyProof.Rows
theorem eqAt_int (A:Around) (s:Shared) (a:Int) (t:Tok) (c:Int) (u:Tok):∃e,SeqAt.EqAt A s (.int a t) (.int c u) e/\(e=true↔a=c) :=
 ⟨(a==c),SeqAt.EqAt.int_int a t c u,by simp⟩
theorem rcLt_int (A:Around) (s:Shared) (a:Int) (t:Tok) (c:Int) (u:Tok) (prog:Program) (w:World) (E:Value->Shared->Prop) (Q:Value->Shared->Prop) (h:Q (.bool (decide (a<c))) s) :
  wpAny (model prog w) A (richCompare .Lt (.int a t) (.int c u)) Q E s :=
 (PyProof.Rows.lt_int h:wpAny (model prog w) A (compareOp .Lt (.int a t) (.int c u)) Q E s)
section
open PySem.SeqAt
open PySem.AutoSeq1 (wpAny_loadPart')
open PySem.MeetsSeq PySem.MeetsSeq2 PySem.MeetsSeq3
end
section
variable {prog:Program} {w:World} {A:Around} {E:Value->Shared->Prop} {s:Shared}
def sIx (n d:Nat):Option Int->Nat
 | none=>d
 | some v=>if v<0 then (v+(n:Int)).toNat else min v.toNat n
theorem sIx_none (n d:Nat):sIx n d none=d:=rfl
theorem sIx_nat (n d k:Nat):sIx n d (some (k:Int))=min k n:=by
 show (if (k:Int)<0 then ((k:Int)+(n:Int)).toNat else min (k:Int).toNat n)=min k n;rw[if_neg (by omega),xbx]
theorem jkZ (n d:Nat) (hd:d<=n) (o:Option Int):sIx n d o<=n:=by
  cases o with
  | none=>exact hd
  | some v =>
    show (if v<0 then (v+(n:Int)).toNat else min v.toNat n)<=n;by_cases hv:v<0
    . rw[if_pos hv];omega
    . rw[if_neg hv];exact Nat.min_le_right _ _
theorem jha (v:Int) (n d:Nat):(if v<0 then max (v+(n:Int)) 0 else min v (n:Int))=((sIx n d (some v):Nat):Int):=by
 show (if v<0 then max (v+(n:Int)) 0 else min v (n:Int))=(((if v<0 then (v+(n:Int)).toNat else min v.toNat n):Nat):Int);by_cases hv:v<0
 ·simp only[if_pos hv];omega
 ·simp only[if_neg hv];omega
theorem jgE (lo hi:Option Int) (n:Nat):Builtin.Slice.sliceAdjust lo hi 1 (n:Int)=(((sIx n 0 lo:Nat):Int),((sIx n n hi:Nat):Int)):=by
 have h1:¬((1:Int)<0):=by omega
 unfold Builtin.Slice.sliceAdjust;simp only[h1,if_false];refine Prod.ext ?_ ?_
 ·cases lo with
  | none=>rfl
  | some v=>exact jha v n 0
 ·cases hi with
  | none=>rfl
  | some v=>exact jha v n n
theorem jgF (i j:Nat):Builtin.Slice.slicePlaces (i:Int) (j:Int) 1=j-i:=by
 unfold Builtin.Slice.slicePlaces;have h1:(1:Int)>0:=by omega
 simp only[h1,if_true,Int.ediv_one];split<;>omega
theorem jen {v:Value} {o:Option Int} {Q:Option Int->Shared->Prop} (p:IsPart v o) (h:Q o s):wpAny (model prog w) A (Builtin.Slice.slicePartIndex v) Q E s:=by
 cases p with
 | none=>exact slicePart_none h
 | int i t=>exact slicePart_int h
theorem jdG {sl:Addr} {vl vu:Value} {lo hi:Option Int} {n:Nat} {Q:Int × Int × Nat->Shared->Prop} (hs:s.heap.IsSliceOf sl vl vu .none) (pl:IsPart vl lo) (pu:IsPart vu hi)
  (h:Q (((sIx n 0 lo:Nat):Int),1,sIx n n hi-sIx n 0 lo) s):wpAny (model prog w) A (Builtin.Slice.sliceApplied (.ref sl) (pure (n:Int))) Q E s:=by
 obtain⟨os,hos,hcs,hds⟩:=id hs;unfold Builtin.Slice.sliceApplied Builtin.Slice.sliceFields;refine wpAny_bind (wpAny_bind (wpAny_field hos hds (x:=vl) rfl (wpAny_bind (wpAny_field hos hds (x:=vu) rfl (wpAny_bind (wpAny_field hos hds (x:=.none) rfl (wpAny_pure ?_)))))));refine wpAny_bind (slicePart_none ?_);show wpAny _ _ (if ((1:Int)==0)=true then _ else _) _ _ s;rw[if_neg (by decide)];refine wpAny_bind (jen pl (wpAny_bind (jen pu (wpAny_bind (wpAny_pure ?_)))));show wpAny _ _ (match Builtin.Slice.sliceAdjust lo hi 1 (n:Int) with | (lo,hi)=>pure (lo,(1:Int),Builtin.Slice.slicePlaces lo hi 1)) _ _ s;rw[jgE lo hi n];show wpAny _ _ (pure (((sIx n 0 lo:Nat):Int),(1:Int),Builtin.Slice.slicePlaces ((sIx n 0 lo:Nat):Int) ((sIx n n hi:Nat):Int) 1)) _ _ s;rw[jgF];exact wpAny_pure h
theorem jix (xs:Array Value) (i k:Nat):((List.range k).filterMap fun (m:Nat)=>xs[((i:Int)+(m:Int)*1).toNat]?).toArray=((xs.toList.drop i).take k).toArray:=by
 have e:(fun (m:Nat)=>xs[((i:Int)+(m:Int)*1).toNat]?)=fun m=>xs[i+m]?:=by
  funext m
  have:((i:Int)+(m:Int)*1).toNat=i+m:=by omega
  rw[this]
 rw[e];have:=pick_run xs i k;rw[List.filterMap_map] at this;have e2:((fun x=>xs[x]?)∘fun x=>i+x)=fun m=>xs[i+m]?:=rfl;rw[e2] at this;rw[this]
theorem getItem_tuple_cut {t sl:Addr} {items:Array Value} {vl vu:Value} {lo hi:Option Int} {Q:Value->Shared->Prop} (ht:IsTup s.heap t items) (hs:s.heap.IsSliceOf sl vl vu .none) (pl:IsPart vl lo) (pu:IsPart vu hi)
  (hw:¬(sIx items.size 0 lo=0/\sIx items.size items.size hi=items.size))
  (h:Q (.ref s.heap.objs.size) { s with heap:=s.heap.push { cls:=.type "tuple",data:=.seq ((items.toList.drop (sIx items.size 0 lo)).take (sIx items.size items.size hi-sIx items.size 0 lo)).toArray } })
  (hsz:items.size<=sizeLine):wpAny (model prog w) A (getItem (.ref t) (.ref sl)) Q E s:=by
 have htake:sizeOk (.seq ((items.toList.drop (sIx items.size 0 lo)).take (sIx items.size items.size hi-sIx items.size 0 lo)).toArray):=by
  show ((items.toList.drop (sIx items.size 0 lo)).take (sIx items.size items.size hi-sIx items.size 0 lo)).toArray.size<=sizeLine;rw[xad,xag,xaq,Array.length_toList];omega
 have hj:sIx items.size items.size hi<=items.size:=jkZ _ _ (xac _) hi;obtain⟨os,hos,hcs,hds⟩:=id hs;have hTs:s.TypeIs (.ref sl) "slice":=⟨os,hos,hcs⟩;unfold getItem;try with_reducible refine wpAny_holding ?_
 first | refine wpAny_bind (wpAny_pure ?_) | skip
 refine wpAny_bind (wpAny_sequenceKey ht.typeIs (by decide) ?_);refine wpAny_bind (wpAny_callSpecial?_slot (name:=Str.ofString "__getitem__") ht.typeIs PyProof.Rows.slot_tuple_getitem
  (wpAny_call_entry PyProof.Rows.slot_tuple_getitem ht.typeIs entry_tuple_getitem ?_ (args_tuple_getitem _ _)))
 show wpAny _ _ (Builtin.Tuple.tupleItemsOf (.ref t) >>= _) _ _ s;refine wpAny_bind (tupleItemsOf_ ht ?_);refine wpAny_bind (wpAny_typeOf hTs ?_);rw[if_pos (by decide)];refine wpAny_bind (jdG hs pl pu ?_);have hno:¬((((sIx items.size 0 lo:Nat):Int)==0&&(1:Int)==1&&(sIx items.size items.size hi-sIx items.size 0 lo)==items.size)=true):=by
  intro q;rw[xaJ,xaJ] at q;have q1:((sIx items.size 0 lo:Nat):Int)=0:=eq_of_beq q.1.1;have q2:sIx items.size items.size hi-sIx items.size 0 lo=items.size:=eq_of_beq q.2;exact hw ⟨by omega,by omega⟩
 show wpAny _ _ (if (((sIx items.size 0 lo:Nat):Int)==0&&(1:Int)==1&&(sIx items.size items.size hi-sIx items.size 0 lo)==items.size)=true then _ else _) _ _ s;rw[if_neg hno,jix]
 first
  | exact wpAny_bind (m:=Builtin.Tuple.tupleExact _) (wpAny_newObj_type (wpAny_pure ⟨_,rfl,wpAny_pure h⟩) htake)
  | exact wpAny_bind (m:=Builtin.Tuple.tupleExact _) (wpAny_newObj_type (wpAny_bind (wpAny_pure (wpAny_pure ⟨_,rfl,wpAny_pure h⟩))) htake)
  | exact wpAny_bind (wpAny_bind (m:=Builtin.Tuple.tupleExact _) (wpAny_newObj_type (wpAny_pure (wpAny_pure ⟨_,rfl,wpAny_pure h⟩)) htake))
  | exact wpAny_bind (wpAny_bind (m:=Builtin.Tuple.tupleExact _) (wpAny_newObj_type (wpAny_pure ⟨_,rfl,wpAny_pure h⟩) htake))
end
end HT
namespace L2
open PySem PySem.Spec PyProof.Rows
abbrev TO:=St->Hp->(Option Int->Hp->Prop)->Prop
def PO (X:Cx) (e:Option Expr) (t:TO):Prop :=
  ∀ (pins : List (Addr × Obj)) (s : Shared) (σ : St) (H : Hp) (Q : Option Int -> Hp -> Prop), Inv X pins σ H s -> t σ H Q ->
    wpAny (model X.prog X.w) X.A (evalPart e X.env) (fun u s'=>∃o H',Inv X pins σ H' s'/\IsPart u o/\Q o H') X.xe s
def jdR:TO:=fun _ H Q=>Q none H
def jhb (t:TE):TO:=fun σ H Q=>t σ H fun x H1=>∃i,x=.int i/\Q (some i) H1
theorem jdi {ns:List Int}:∀{us:List Value},Vals (ns.map V.int) us->IntsAre us ns:=by
  induction ns with
  | nil=>intro us r;rw[List.map_nil] at r;cases r;exact .nil
  | cons n ns ih =>
    intro us r;rw[xaY] at r;cases r with
    | cons r1 r2 =>
      obtain⟨t,e⟩:=r1;subst e;exact .cons n t (ih r2)
section
variable {X:Cx} {e:Expr} {te:TE} {lo hi:Option Expr} {tl th:TO} {pos p2:Pos}
theorem jaJ:PO X none jdR:=by
 intro pins s σ H Q I h;rw[evalPart_none];exact wpAny_pure ⟨none,H,I,.none,h⟩
theorem jaK (h:PE X e te):PO X (some e) (jhb te):=by
 intro pins s σ H Q I hw;rw[evalPart_some];refine thn (h pins s σ H _ I hw) fun u s1 ⟨x,H1,I1,r1,q1⟩=>?_;obtain⟨i,rfl,q⟩:=q1;obtain⟨t,rfl⟩:=r1;exact⟨some i,H1,I1,.int i t,q⟩
def SlR (X:Cx) (r:V->Option Int->Option Int->Hp->VK->Prop):Prop :=
  ∀ (pins : List (Addr × Obj)) (s : Shared) (σ : St) (H : Hp) (x : V) (v vl vu : Value) (lo hi : Option Int) (sl : Addr) (Q : VK), Inv X pins σ H s -> RelV x v -> s.heap.IsSliceOf sl vl vu .none -> IsPart vl lo -> IsPart vu hi -> r x lo hi H Q ->
    ∃T id,typeLookup (.type T) "__getitem__"=pure (some (.builtin id))/\s.TypeIs v T/\wpAny (model X.prog X.w) X.A (getItem v (.ref sl)) (EP X pins σ Q) X.xe s
def tSl (r:V->Option Int->Option Int->Hp->VK->Prop) (te:TE) (tl th:TO):TE:=fun σ H Q=>te σ H fun x H1=>tl σ H1 fun l H2=>th σ H2 fun u H3=>r x l u H3 Q
theorem jaO {r:V->Option Int->Option Int->Hp->VK->Prop} (hr:SlR X r) (he:PE X e te) (hl:PO X lo tl) (hu:PO X hi th):PE X (.Subscript e (.Slice lo hi none p2) pos) (tSl r te tl th):=by
 intro pins s σ H Q I h;refine Subscript_ (thn (he pins s σ H _ I h) fun v s1 ⟨x,H1,I1,r1,q1⟩=>?_);refine wpAny_Slice (thn (hl pins s1 σ H1 _ I1 q1) fun vl s2 ⟨l,H2,I2,pl,q2⟩=>thn (hu pins s2 σ H2 _ I2 q2) fun vu s3 ⟨u,H3,I3,pu,q3⟩=>?_);rw[evalPart_none];refine wpAny_pure ?_;have I4:Inv X pins σ H3 { s3 with heap:=s3.heap.push { cls:=.type "slice",data:=.fields #[vl,vu,.none] } }:=I3.kept (t':=s3.toks) fun b ob q=>Heap.get?_push_of_some _ q;obtain⟨T,id,hT,ht,hg⟩:=hr pins { s3 with heap:=s3.heap.push { cls:=.type "slice",data:=.fields #[vl,vu,.none] } } σ H3 x v vl vu l u s3.heap.objs.size Q I4 r1 (Heap.IsSliceOf.new ..) pl pu q3;show wpAny (model X.prog X.w) X.A (subscriptTail e (.Slice lo hi none p2) v (.ref s3.heap.objs.size)) (EP X pins σ Q) X.xe { s3 with heap:=s3.heap.push { cls:=.type "slice",data:=.fields #[vl,vu,.none] } };exact tail_any (ops:=[.ref s3.heap.objs.size,v]) ht hT hg (by with_unfolding_all rfl)
def jeD (xs:List V) (lo hi:Option Int):List V:=(xs.drop (HT.sIx xs.length 0 lo)).take (HT.sIx xs.length xs.length hi-HT.sIx xs.length 0 lo)
theorem jdS (xs:List V) (lo hi:Option Int):(jeD xs lo hi).length<=xs.length:=by
 unfold jeD;rw[xag,xaq];omega
def rSlT (K:PySem.W.Frag):V->Option Int->Option Int->Hp->VK->Prop:=fun x lo hi H Q=>∃a xs,x=.ref a/\SqT K H a xs /\
 ¬(HT.sIx xs.length 0 lo=0/\HT.sIx xs.length xs.length hi=xs.length)/\∀p,H p=none->Q (.ref p) (upd H p (.tup (jeD xs lo hi)))
theorem jk0:SlR X (rSlT X.K):=by
 intro pins s σ H x v vl vu lo hi sl Q I rx hs pl pu h;obtain⟨a,xs,rfl,hx,hw,q⟩:=h;cases rx;obtain⟨its,r,ht,hz⟩:=I.tuple hx;have hlen:its.toArray.size=xs.length:=by rw[xad];exact r.length.symm
 refine⟨"tuple",_,PyProof.Rows.slot_tuple_getitem.lookup,ht.typeIs,?_⟩;refine HT.getItem_tuple_cut ht hs pl pu (by rw[hlen];exact hw) ?_ (by rw[hlen];exact hz);rw[hlen];refine⟨.ref s.heap.objs.size,_,I.laid (t':=s.toks) (o:=.tup (jeD xs lo hi)) (fun b ob q=>Heap.get?_push_of_some _ q) (xac _) ?_,rfl,q _ (I.hok.fresh (xac _))⟩;exact⟨xaw (jdS xs lo hi) hz,_,(r.drop (HT.sIx xs.length 0 lo)).take (HT.sIx xs.length xs.length hi-HT.sIx xs.length 0 lo),IsTup.new _ _⟩
end
def ixN (n:Nat) (i:Int):Option Nat:=if 0<=i then (if i<n then some i.toNat else none) else if -(n:Int)<=i then some (i+n).toNat else none
def atI {α:Type} (xs:List α) (i:Int):Option α:=(ixN xs.length i).bind fun j=>xs[j]?
theorem jjU {n:Nat} {i:Int} {j:Nat} (h:ixN n i=some j):seqIndex? i n=some j/\j<n/\-(n:Int)<=i/\i<n:=by
 unfold ixN at h;by_cases h0:0<=i
 ·rw[if_pos h0] at h;by_cases h1:i<n
  ·rw[if_pos h1] at h;have e:i.toNat=j:=Option.some.inj h;exact⟨by rw[seqIndex_of h0 h1,e],by omega,by omega,h1⟩
  ·rw[if_neg h1] at h;cases h
 ·rw[if_neg h0] at h;by_cases h1:-(n:Int)<=i
  ·rw[if_pos h1] at h;have e:(i+n).toNat=j:=Option.some.inj h;exact⟨by rw[seqIndex_neg (by omega) h1,e],by omega,h1,by omega⟩
  ·rw[if_neg h1] at h;cases h
theorem jhc {α:Type} {xs:List α} {i:Int} {v:α} (h:atI xs i=some v):∃j,seqIndex? i xs.length=some j/\xs[j]?=some v/\j<xs.length/\-(xs.length:Int)<=i/\i<xs.length:=by
  unfold atI at h;cases e:ixN xs.length i with
  | none=>rw[e] at h;cases h
  | some j =>
    rw[e] at h;obtain⟨h1,h2,h3,h4⟩:=jjU e;exact⟨j,h1,h,h2,h3,h4⟩
theorem jaS {α:Type} {xs:List α} {j:Nat} {v:α} (h:xs[j]?=some v):atI xs (j:Int)=some v:=by
 have hj:j<xs.length:=(xai.mp h).1;have e:ixN xs.length (j:Int)=some j:=by
  unfold ixN;rw[if_pos (by omega),if_pos (by omega)];simp
 unfold atI;rw[e];exact h
theorem jiy {α:Type} (xs:List α) (v:α):atI (xs++[v]) (-1)=some v:=by
 have hl:(xs++[v]).length=xs.length+1:=by simp
 have e:ixN (xs++[v]).length (-1)=some xs.length:=by
  unfold ixN;rw[hl,if_neg (by decide),if_pos (by omega)]
  congr 1
  omega
 unfold atI;rw[e];show (xs++[v])[xs.length]?=some v;simp
def jjV (b:Expr):Prop:=∀o i,subscripted b false o i=operate [o,i] (getItem o i)
def IxR (X:Cx) (r:R2):Prop :=
  ∀ (value slice : Expr) (pins : List (Addr × Obj)) (s : Shared) (σ : St) (H : Hp) (x y : V) (v u : Value) (Q : VK), Inv X pins σ H s -> RelV x v -> RelV y u -> r x y H Q ->
    subscripted slice false v u=operate [v,u] (getItem v u)->wpAny (model X.prog X.w) X.A (subscriptTail value slice v u) (EP X pins σ Q) X.xe s
def MtR (X:Cx) (id:String) (r:V->List V->Hp->VK->Prop):Prop :=
  ∀ (pins : List (Addr × Obj)) (s : Shared) (σ : St) (H : Hp) (x : V) (xs : List V) (v : Value) (us : List Value) (Q : VK), Inv X pins σ H s -> RelV x v -> Vals xs us -> r x xs H Q ->
    wpAny (model X.prog X.w) X.A (call (.builtin id) (v::us)) (EP X pins σ Q) X.xe s
section
variable {X:Cx} {a b:Expr} {ta tb:TE} {pos:Pos}
theorem jak {r:R2} (hr:IxR X r) (ha:PE X a ta) (hb:PE X b tb) (hs:jjV b:=by exact fun _ _=>rfl):PE X (.Subscript a b pos) (tOp r ta tb):=by
 intro pins s σ H Q I h;exact Subscript_ (binT ha hb I h fun v u s2 x y H2 I2 rx ry q=>hr a b pins s2 σ H2 x y v u Q I2 rx ry q (hs _ _))
def jjW (K:PySem.W.Frag):R2:=fun x y H Q=>∃p xs i v,x=.ref p/\y=.int i/\SqL K H p xs/\atI xs i=some v/\Q v H
def rIxT (K:PySem.W.Frag):R2:=fun x y H Q=>∃p xs i v,x=.ref p/\y=.int i/\SqT K H p xs/\atI xs i=some v/\Q v H
theorem jan:IxR X (jjW X.K):=by
 intro value slice pins s σ H x y v u Q I rx ry h hs;obtain⟨p,xs,i,z,rfl,rfl,hq,he,q⟩:=h;cases rx;obtain⟨t,rfl⟩:=ry;obtain⟨its,r,pl,hz⟩:=I.list hq;obtain⟨j,h1,h2,h3,h4,h5⟩:=jhc he;obtain⟨w,ew,rw'⟩:=r.get h2;have hl:=r.length;have hn:=je0;have fin:EP X pins σ Q w s:=⟨z,H,I,rw',q⟩;by_cases h0:0<=i
 ·have hj:i.toNat=j:=by
   rw[seqIndex_of h0 h5] at h1;exact Option.some.inj h1
  exact item_listR pl.isList h0 (by omega) (by rw[hj];simpa using ew) fin hs
 ·have hj:(i+(its.toArray.size:Int)).toNat=j:=by
   rw[seqIndex_neg (by omega) h4] at h1;rw[xad,<- hl];exact Option.some.inj h1
  exact subscriptTail_builtinR (x:=w) pl.isList.typeIs slot_list_getitem.lookup
   (wpAny_getItem_list_neg (Q:=fun r s'=>r=w/\EP X pins σ Q r s') pl.isList (by omega) (by rw[xad]<;>omega) (by omega) (by rw[hj];simpa using ew) ⟨rfl,fin⟩) hs
theorem jaC:IxR X (rIxT X.K):=by
 intro value slice pins s σ H x y v u Q I rx ry h hs;obtain⟨p,xs,i,z,rfl,rfl,hq,he,q⟩:=h;cases rx;obtain⟨t,rfl⟩:=ry;obtain⟨its,r,pl,hz⟩:=I.tuple hq;obtain⟨j,h1,h2,h3,h4,h5⟩:=jhc he;obtain⟨w,ew,rw'⟩:=r.get h2;have hl:=r.length;have hn:=je0;have fin:EP X pins σ Q w s:=⟨z,H,I,rw',q⟩;exact subscriptTail_builtinR (x:=w) pl.typeIs slot_tuple_getitem.lookup
  (getItem_tuple (j:=j) (Q:=fun r s'=>r=w/\EP X pins σ Q r s') pl (by omega) (by omega) (by rw[xad,<- hl];exact h1) (by simpa using ew) ⟨rfl,fin⟩) hs
theorem Inv.lst {pins:List (Addr × Obj)} {σ:St} {H:Hp} {s:Shared} {p:Addr} {xs:List V} (I:Inv X pins σ H s) (h:H p=some (.lst xs)) :
  ∃(its:List Value) (n:Nat),Vals xs its/\s.heap.get? p=some { cls:=.type "list",data:=.seq its.toArray n }/\xs.length<=sizeLine:=by
 obtain⟨z,its,n,r,e⟩:=I.hok p _ h;exact⟨its,n,r,e,z⟩
theorem je4 (lo hi:Option Int) (n:Nat):(sliceBounds lo hi none n).1=((HT.sIx n 0 lo:Nat):Int)/\(sliceBounds lo hi none n).2.1=((HT.sIx n n hi:Nat):Int)/\(sliceBounds lo hi none n).2.2=1:=by
  refine⟨?_,?_,rfl⟩
  . cases lo with
    | none=>simp [sliceBounds,HT.sIx]
    | some i =>
      simp only[sliceBounds,HT.sIx,Option.getD_none,show (1:Int)>0 by decide,if_true];by_cases h:i<0
      . simp only[h,if_true]<;>omega
      . simp only[h,if_false]<;>omega
  . cases hi with
    | none=>simp [sliceBounds,HT.sIx]
    | some i =>
      simp only[sliceBounds,HT.sIx,Option.getD_none,show (1:Int)>0 by decide,if_true];by_cases h:i<0
      . simp only[h,if_true]<;>omega
      . simp only[h,if_false]<;>omega
theorem jeE (its:List Value) (lo hi:Option Int):slicePick its.toArray lo hi none=((its.drop (HT.sIx its.length 0 lo)).take (HT.sIx its.length its.length hi-HT.sIx its.length 0 lo)).toArray:=by
 obtain⟨h1,h2,h3⟩:=je4 lo hi its.toArray.size;unfold slicePick;rw[h1,h2,h3];simp only[sliceRange_one,pick_run,xad]<;>rfl
def rSlL (K:PySem.W.Frag):V->Option Int->Option Int->Hp->VK->Prop:=fun x lo hi H Q=>∃a xs,x=.ref a/\SqL K H a xs/\∀p,H p=none->Q (.ref p) (upd H p (.lst (jeD xs lo hi)))
theorem ja1:SlR X (rSlL X.K):=by
 intro pins s σ H x v vl vu lo hi sl Q I rx hs pl pu h;obtain⟨a,xs,rfl,hx,q⟩:=h;cases rx;obtain⟨its,r,ht,hz⟩:=I.list hx;have hlen:=r.length;refine⟨"list",_,slot_list_getitem.lookup,ht.isList.typeIs,?_⟩;refine wpAny_getItem_list_slice ht.isList hs pl pu .none (by simp) ?_ (by rw[xad]<;>omega);rw[jeE,<- hlen];refine⟨.ref s.heap.objs.size,_,I.laid (t':=s.toks) (o:=.lst (jeD xs lo hi)) (fun b ob q=>Heap.get?_push_of_some _ q) (xac _) ?_,rfl,q _ (I.hok.fresh (xac _))⟩;exact⟨xaw (jdS xs lo hi) hz,_,0,(r.drop (HT.sIx xs.length 0 lo)).take (HT.sIx xs.length xs.length hi-HT.sIx xs.length 0 lo),Heap.get?_push_size _ rfl⟩
def jdH:V->Bool
 | .non=>true
 | .bl _=>true
 | .int _=>true
 | .str _=>true
 | _=>false
def eqV:V->V->Bool
 | .non,.non=>true
 | .bl a,.bl b=>a==b
 | .bl a,.int b=>(if a then 1 else 0)==b
 | .int a,.bl b=>a==(if b then 1 else 0)
 | .int a,.int b=>a==b
 | .str a,.str b=>a==b
 | _,_=>false
theorem jk1 {A:Around} {s:Shared} {y x:V} {u v:Value} (ry:RelV y u) (rx:RelV x v) (fy:jdH y=true) (fx:jdH x=true):SeqAt.EqAt A s u v (eqV y x):=by
  cases y with
  | non =>
    cases ry;cases x with
    | non=>cases rx;exact SeqAt.EqAt.same _
    | bl b=>cases rx;exact SeqAt.EqAt.none_bool b
    | int b=>obtain⟨t,rfl⟩:=rx;exact SeqAt.EqAt.none_int b t
    | str b=>obtain⟨t,rfl⟩:=rx;exact SeqAt.EqAt.none_str b t
    | _=>exact absurd (show false=true from fx) xan
  | bl a =>
    cases ry;cases x with
    | non=>cases rx;exact SeqAt.EqAt.bool_none a
    | bl b=>cases rx;exact SeqAt.EqAt.bool_bool a b
    | int b=>obtain⟨t,rfl⟩:=rx;exact SeqAt.EqAt.bool_int a b t
    | str b=>obtain⟨t,rfl⟩:=rx;exact SeqAt.EqAt.bool_str a b t
    | _=>exact absurd (show false=true from fx) xan
  | int a =>
    obtain⟨t',rfl⟩:=ry;cases x with
    | non=>cases rx;exact SeqAt.EqAt.int_none a t'
    | bl b=>cases rx;exact SeqAt.EqAt.int_bool a t' b
    | int b=>obtain⟨t,rfl⟩:=rx;exact SeqAt.EqAt.int_int a t' b t
    | str b=>obtain⟨t,rfl⟩:=rx;exact SeqAt.EqAt.int_str a t' b t
    | _=>exact absurd (show false=true from fx) xan
  | str a =>
    obtain⟨t',rfl⟩:=ry;cases x with
    | non=>cases rx;exact SeqAt.EqAt.str_none a t'
    | bl b=>cases rx;exact SeqAt.EqAt.str_bool a t' b
    | int b=>obtain⟨t,rfl⟩:=rx;exact SeqAt.EqAt.str_int a t' b t
    | str b=>obtain⟨t,rfl⟩:=rx;exact SeqAt.EqAt.str_str a t' b t
    | _=>exact absurd (show false=true from fx) xan
  | _=>exact absurd (show false=true from fy) xan
def eqU (x:V) (u:Value):Bool:=match u with
 | .none=>eqV .non x
 | .bool b=>eqV (.bl b) x
 | .int i _=>eqV (.int i) x
 | .str z _=>eqV (.str z) x
 | _=>false
theorem jhd {x y:V} {u:Value} (r:RelV y u) (f:jdH y=true):eqU x u=eqV y x:=by
 cases y with
 | non=>cases r;rfl
 | bl b=>cases r;rfl
 | int i=>obtain⟨t,rfl⟩:=r;rfl
 | str z=>obtain⟨t,rfl⟩:=r;rfl
 | _=>exact absurd (show false=true from f) xan
theorem jdj {x:V}:∀{xs:List V} {us:List Value},Vals xs us->xs.all jdH=true->us.any (eqU x)=xs.any fun y=>eqV y x
  | _,_,.nil,_=>rfl
  | y :: xs, u :: us, .cons r t, f => by
    rw[xby,xaJ] at f;rw[List.any_cons,List.any_cons,jhd r f.1,jdj t f.2]
theorem jcC {A:Around} {s:Shared} {x:V} {v:Value} (rx:RelV x v) (fx:jdH x=true):∀{xs:List V} {us:List Value},Vals xs us->xs.all jdH=true->∀u∈us,SeqAt.EqAt A s u v (eqU x u)
  | _,_,.nil,_=>fun u hu=>by cases hu
  | y :: xs, u :: us, .cons r t, f => fun u' hu => by
    rw[xby,xaJ] at f;rcases xaf.mp hu with rfl | hu
    . rw[jhd r f.1];exact jk1 r rx f.1 fx
    . exact jcC rx fx t f.2 u' hu
def inV (x:V) (xs:List V):Bool:=xs.any fun y=>eqV y x
def rIn (K:PySem.W.Frag) (neg:Bool):R2:=fun x y H Q=>∃p xs,y=.ref p/\(SqL K H p xs\/SqT K H p xs)/\jdH x=true/\xs.all jdH=true/\Q (.bl (if neg then !inV x xs else inV x xs)) H
theorem jhe:OpR X (compareOp .In) (rIn X.K false):=by
 intro pins s σ H x y v u Q I rx ry h;obtain⟨p,xs,rfl,hq,fx,fs,q⟩:=h;cases ry;rcases hq with hq | hq
 ·obtain⟨its,r,pl,hz⟩:=I.list hq;refine SeqAt.in_listAt (eqU x) pl.isList (fun w hw=>jcC rx fx r fs w (by simpa using hw)) ⟨.bl _,H,I,rfl,?_⟩;rw[show its.toArray.any (eqU x)=its.any (eqU x) by simp,jdj r fs];exact q
 ·obtain⟨its,r,pl,hz⟩:=I.tuple hq;refine SeqAt.in_tupleAt (eqU x) pl (fun w hw=>jcC rx fx r fs w (by simpa using hw)) ⟨.bl _,H,I,rfl,?_⟩;rw[show its.toArray.any (eqU x)=its.any (eqU x) by simp,jdj r fs];exact q
theorem je5:OpR X (compareOp .NotIn) (rIn X.K true):=by
 intro pins s σ H x y v u Q I rx ry h;obtain⟨p,xs,rfl,hq,fx,fs,q⟩:=h;cases ry;rcases hq with hq | hq
 ·obtain⟨its,r,pl,hz⟩:=I.list hq;refine SeqAt.notIn_listAt (eqU x) pl.isList (fun w hw=>jcC rx fx r fs w (by simpa using hw)) ⟨.bl _,H,I,rfl,?_⟩;rw[show its.toArray.any (eqU x)=its.any (eqU x) by simp,jdj r fs];exact q
 ·obtain⟨its,r,pl,hz⟩:=I.tuple hq;refine SeqAt.notIn_tupleAt (eqU x) pl (fun w hw=>jcC rx fx r fs w (by simpa using hw)) ⟨.bl _,H,I,rfl,?_⟩;rw[show its.toArray.any (eqU x)=its.any (eqU x) by simp,jdj r fs];exact q
theorem jaz:jcQ X (.builtin "len") (fun xs H Q=>∃p ys,xs=[.ref p]/\(SqL X.K H p ys\/SqT X.K H p ys)/\Q (.int ys.length) H):=by
 intro pins s σ H xs us Q I r h;obtain⟨p,ys,rfl,hq,q⟩:=h;obtain⟨u,rfl,rx⟩:=jeh r;cases rx;have hn:=je0;rcases hq with hq | hq
 ·obtain⟨its,r',pl,hz⟩:=I.list hq;have hlen:=r'.length;exact Calls.call_len_list pl.isList (by simp only[xad]<;>omega) ⟨.int ys.length,H,I.tok _,⟨s.toks+1,by rw[xad,hlen]⟩,q⟩
 ·obtain⟨its,r',pl,hz⟩:=I.tuple hq;have hlen:=r'.length;exact len_tuple pl (by simp only[xad]<;>omega) ⟨.int ys.length,H,I.tok _,⟨s.toks+1,by rw[xad,hlen]⟩,q⟩
theorem jbI:jcQ X (.type "list") (fun xs H Q=>∃p ys,xs=[.ref p]/\(SqL X.K H p ys\/SqT X.K H p ys)/\∀l,H l=none->Q (.ref l) (upd H l (.lst ys))):=by
 intro pins s σ H xs us Q I r h;obtain⟨p,ys,rfl,hq,q⟩:=h;obtain⟨u,rfl,rx⟩:=jeh r;cases rx;have fin:∀(its:List Value),Vals ys its->ys.length<=sizeLine->∀(h':Heap) (c':Nat),(∀b o',s.heap.get? b=some o'->h'.get? b=some o') ->
   h'.get? s.heap.objs.size=some { cls:=.type "list",dict:=none,data:=.seq its.toArray c',slots:=#[] }->EP X pins σ Q (.ref s.heap.objs.size) { s with heap:=h' }:=fun its r' hz h' c' kp e =>
  ⟨.ref s.heap.objs.size,_,I.laid (t':=s.toks) kp (xac _) (show ObjOk X.prog X.w _ h' _ (.lst ys) from ⟨hz,its,c',r',e⟩),rfl,q _ (I.hok.fresh (xac _))⟩
 rcases hq with hq | hq
 ·obtain⟨its,r',pl,hz⟩:=I.list hq;have hlen:=r'.length;obtain⟨o,ho,hc,n,hd⟩:=pl.isList;exact call_list_seq p (.inl rfl) ho hc hd (fun h' c' kp e=>fin its r' hz h' c' kp e) (by simp only[xad]<;>omega)
 ·obtain⟨its,r',pl,hz⟩:=I.tuple hq;have hlen:=r'.length;obtain⟨o,ho,hc,n,hd⟩:=pl;exact call_list_seq p (.inr rfl) ho hc hd (fun h' c' kp e=>fin its r' hz h' c' kp e) (by simp only[xad]<;>omega)
theorem jbg:jcQ X (.type "tuple") (fun xs H Q=>∃p ys,xs=[.ref p]/\((SqL X.K H p ys/\∀l,H l=none->Q (.ref l) (upd H l (.tup ys)))\/(SqT X.K H p ys/\Q (.ref p) H))):=by
 intro pins s σ H xs us Q I r h;obtain⟨p,ys,rfl,h⟩:=h;obtain⟨u,rfl,rx⟩:=jeh r;cases rx;rcases h with ⟨hq,q⟩ | ⟨hq,q⟩
 ·obtain⟨its,r',pl,hz⟩:=I.list hq;have hlen:=r'.length;refine call_tuple_list pl.isList (fun h' kp=>?_) (by simp only[xad]<;>omega);have I1:Inv X pins σ H { s with heap:=h' }:=I.kept (t':=s.toks) kp;have I2:Inv X pins σ (upd H h'.objs.size (.tup ys)) { s with heap:=h'.push { cls:=.type "tuple",data:=.seq its.toArray } } :=
   I1.laid (t':=s.toks) (fun b o e=>Heap.get?_push_of_some _ e) (xac _) (show ObjOk X.prog X.w _ _ _ (.tup ys) from ⟨hz,its,r',IsTup.new _ _⟩)
  exact⟨.ref h'.objs.size,_,I2,rfl,q _ (I1.hok.fresh (xac _))⟩
 ·obtain⟨its,r',pl,hz⟩:=I.tuple hq;exact call_tuple_same pl ⟨.ref p,H,I,rfl,q⟩
def tyV (K:PySem.W.Frag) (T:String) (x:V) (H:Hp):Prop:=match x with
 | .str _=>T="str"
 | .int _=>T="int"
 | .ref p=>(T="list" /\ ∃xs,SqL K H p xs) \/ (T="tuple" /\ ∃o,K.lookup p=some o /\ o.cls=.type "tuple" /\ o.dict=none) \/
   (T="dict"/\((∃kvs,H p=some (.dK kvs))\/∃kvs,H p=some (.dT kvs)))\/(T="set"/\∃S n,H p=some (.set S n))
 | _=>False
theorem ji9 {pins:List (Addr × Obj)} {σ:St} {H:Hp} {s:Shared} {T:String} {x:V} {v:Value} (I:Inv X pins σ H s) (r:RelV x v) (ty:tyV X.K T x H) :
    s.TypeIs v T/\∀a,v=.ref a->∃ob,s.heap.get? a=some ob/\ob.dict=none:=by
  cases x with
  | str z =>
    obtain⟨t,rfl⟩:=r;cases (show T="str" from ty);exact⟨typeIs_str s z t,fun _ e=>nomatch e⟩
  | int i =>
    obtain⟨t,rfl⟩:=r;cases (show T="int" from ty);exact⟨typeIs_int s i t,fun _ e=>nomatch e⟩
  | ref p =>
    cases r;rcases ty with ⟨rfl,xs,hq⟩ | ⟨rfl,o,hk,hc,hd⟩ | ⟨rfl,hk⟩ | ⟨rfl,S,n,hk⟩
    . obtain⟨its,_,pl,_⟩:=I.list hq
      refine⟨pl.isList.typeIs,fun a e=>?_⟩;cases e;obtain⟨o,n,e,c,hd,_⟩:=pl;exact⟨o,e,hd⟩
    . refine⟨⟨o,I.kIn p o hk,hc⟩,fun a e=>?_⟩
      cases e;exact⟨o,I.kIn _ o hk,hd⟩
    . have z:∃o,s.heap.get? p=some o/\o.ExactDict:=by
        rcases hk with ⟨kvs,hk⟩ | ⟨kvs,hk⟩
        . obtain⟨_,_,_,_,o,_,_,e,ex,_⟩:=I.hok p _ hk
          exact⟨o,e,ex⟩
        . obtain⟨_,_,_,_,o,_,_,e,ex,_⟩:=I.hok p _ hk
          exact⟨o,e,ex⟩
      obtain⟨o,e,ex⟩:=z;refine⟨⟨o,e,ex.1⟩,fun a e2=>?_⟩;cases e2;exact⟨o,e,ex.2.1⟩
    . obtain⟨o,_,_,_,e,ex,_⟩:=I.hok p _ hk
      refine⟨⟨o,e,ex.1⟩,fun a e2=>?_⟩;cases e2;exact⟨o,e,ex.2.1⟩
  | _=>exact False.elim ty
def jk2 (K:PySem.W.Frag) (T:String) (r:V->List V->Hp->VK->Prop) (to:TE):TE:=fun σ H Q=>to σ H fun x H1=>tyV K T x H1/\r x [] H1 Q
def tBM (K:PySem.W.Frag) (T:String) (r:V->List V->Hp->VK->Prop) (to:TE) (t:TA):TE:=fun σ H Q=>to σ H fun x H1=>tyV K T x H1/\t σ H1 fun xs H2=>r x xs H2 Q
variable {o e:Expr} {es:List Expr} {to:TE} {t:TA} {name:Str} {apos cpos:Pos} {T id:String} {r:V->List V->Hp->VK->Prop}
theorem jhf (pa:PlainAttrs T) (slot:Slot T name id) (hty:typeOf (.builtin id)=pure (.type "method_descriptor")) (hm:MtR X id r) (ho:PE X o to)
  (hbase:attributeBase o name X.env (eval o X.env)=eval o X.env:=by rfl) (hline:(apos.endLine==cpos.line)=true:=by rfl):PE X (.Call (.Attribute o name apos) [] [] cpos) (jk2 X.K T r to):=by
 intro pins s σ H Q I h;refine wpAny_Call_method0_late hbase hline (thn (ho pins s σ H _ I h) fun v s1 ⟨x,H1,I1,r1,ty,q1⟩=>?_);obtain⟨h1,h2⟩:=ji9 I1 r1 ty;exact⟨T,id,pa,slot,hty,h1,h2,Calls.callWith_builtin rfl (PySem.evalArgs_none (hm pins s1 σ H1 x [] v [] Q I1 r1 .nil q1))⟩
theorem jeF (pa:PlainAttrs T) (slot:Slot T name id) (hty:typeOf (.builtin id)=pure (.type "method_descriptor")) (hm:MtR X id r) (ho:PE X o to) (ha:PA X (e::es) t)
  (hbase:attributeBase o name X.env (eval o X.env)=eval o X.env:=by rfl)
  (hfew:((backTo cpos (starEach (e::es) X.env)).all (fun x=>!x.1)&&(backToKw cpos (keywordEach [] X.env)).all (fun x=>x.1.isSome)
   && decide ((e::es).length+([]:List Keyword).length+(if ([]:List Keyword).isEmpty then 0 else 1)<30))=true:=by rfl)
  (hline:(apos.endLine==cpos.line)=true:=by rfl) (hs:starEach (e::es) X.env=(false,eval e X.env)::starEach es X.env:=by rfl) (hplain:(backTo cpos (starEach es X.env)).any (·.1)=false:=by rfl) :
  PE X (.Call (.Attribute o name apos) (e::es) [] cpos) (tBM X.K T r to t):=by
 intro pins s σ H Q I h;refine wpAny_Call_method_late hbase hfew hline rfl (thn (ho pins s σ H _ I h) fun v s1 ⟨x,H1,I1,r1,ty,q1⟩=>?_);obtain⟨h1,h2⟩:=ji9 I1 r1 ty;refine⟨T,id,pa,slot,hty,h1,h2,?_⟩;have hA:=ha cpos pins s1 σ H1 _ I1 q1;rw[hs] at hA |-
 refine Calls.callWith_builtin (by show (false||(backTo cpos (starEach es X.env)).any (·.1))=false;rw[hplain]<;>rfl) (Calls.evalArgs_plain ?_);exact thn hA fun us s2 ⟨vs,H2,I2,r2,q2⟩=>hm pins s2 σ H2 x vs v us Q I2 r1 r2 q2
end
def MtM (X:Cx) (id:String) (r:V->List V->Hp->VK->Prop):Prop :=
  ∀ (pins : List (Addr × Obj)) (s : Shared) (σ : St) (H : Hp) (x : V) (xs : List V) (v : Value) (us : List Value) (Q : VK), Inv X pins σ H s -> RelV x v -> Vals xs us -> r x xs H Q ->
    wpAny (model X.prog X.w) X.A (call (.builtin id) (v::us)) (EP X pins σ Q) X.xe s
theorem Vals.one:∀{x:V} {us:List Value},Vals [x] us->∃u,us=[u]/\RelV x u
 | _,_,.cons r .nil=>⟨_,rfl,r⟩
theorem Vals.zero:∀{us:List Value},Vals [] us->us=[]
 | _,.nil=>rfl
theorem Vals.dropLast {xs:List V} {us:List Value} (h:Vals xs us):Vals xs.dropLast us.dropLast:=by
  induction h with
  | nil=>exact .nil
  | cons r t ih =>
    cases t with
    | nil=>exact .nil
    | cons q t'=>exact .cons r ih
theorem Vals.eraseIdx:∀{xs:List V} {us:List Value} (i:Nat),Vals xs us->Vals (xs.eraseIdx i) (us.eraseIdx i)
 | _,_,_,.nil=>.nil
 | _,_,0,.cons _ t=>t
 | _,_,i+1,.cons r t=>.cons r (Vals.eraseIdx i t)
theorem Vals.reverse {xs:List V} {us:List Value} (h:Vals xs us):Vals xs.reverse us.reverse:=by
 induction h with
 | nil=>exact .nil
 | cons r t ih=>rw[xaO,xaO];exact Vals.append ih (.cons r .nil)
theorem jgG {α:Type} (l:List α):l.eraseIdx (l.length-1)=l.dropLast:=by
  induction l with
  | nil=>rfl
  | cons a r ih =>
    cases r with
    | nil=>rfl
    | cons b r =>
      have e:(a::b::r).length-1=((b::r).length-1)+1:=by
        have h1:(a::b::r).length=r.length+2:=rfl;have h2:(b::r).length=r.length+1:=rfl;omega
      rw[e,List.eraseIdx_cons_succ,ih]
      all_goals rfl
section
variable {X:Cx} {pins:List (Addr × Obj)} {σ:St} {H:Hp} {s:Shared} {l b:Addr} {xs ys zs:List V}
theorem Inv.lset {its its':List Value} {n:Nat} {f:Array Value->Array Value} {t':Nat} (I:Inv X pins σ H s) (hH:H l=some (.lst xs))
  (e:s.heap.get? l=some { cls:=.type "list",data:=.seq its.toArray n }) (hf:f its.toArray=its'.toArray) (hv:Vals ys its') (hz:ys.length<=sizeLine) :
  Inv X pins σ (upd H l (.lst ys)) { s with heap:=s.heap.update l (Obj.mapSeq f),toks:=t' }:=by
 have q:=PySem.IsL.update e f;rw[hf] at q;refine I.write (x:=l) (e:=l) (by rw[hH];exact trivial) (.inl rfl) (fun b' u hb hu=>(Heap.get?_update_other s.heap (Obj.mapSeq f) (Ne.symm hb)).trans hu) ⟨_,q⟩ ?_;exact⟨hz,its',_,hv,q⟩
theorem Inv.lnew {its:List Value} {t':Nat} (I:Inv X pins σ H s) (hv:Vals ys its) (hz:ys.length<=sizeLine) :
  Inv X pins σ (upd H s.heap.objs.size (.lst ys)) { s with heap:=s.heap.push { cls:=.type "list",data:=.seq its.toArray },toks:=t' } :=
 I.laid (fun _ _ q=>Heap.get?_push_of_some _ q) (xac _) ⟨hz,its,0,hv,Heap.get?_push_size _ rfl⟩
theorem Inv.fresh (I:Inv X pins σ H s):H s.heap.objs.size=none:=I.hok.fresh (xac _)
theorem Inv.lstM (I:Inv X pins σ H s) (hH:H l=some (.lst xs)):xs.length<=sizeLine/\∃(its:List Value) (n:Nat),Vals xs its/\xs.length=its.length/\s.heap.get? l=some { cls:=.type "list",data:=.seq its.toArray n }:=by
 obtain⟨z,its,n,r,e⟩:=I.hok l _ hH;exact⟨z,its,n,r,r.length,e⟩
end
section
variable {X:Cx}
def jhg:V->List V->Hp->VK->Prop:=fun x vs H Q=>∃l xs y,x=.ref l/\vs=[y]/\H l=some (.lst xs)/\xs.length<sizeLine/\Q .non (upd H l (.lst (xs++[y])))
theorem jbx:MtM X "list.append" jhg:=by
 intro pins s σ H x vs v us Q I rx rv h;obtain⟨l,xs,y,rfl,rfl,hH,hz,q⟩:=h;cases rx;obtain⟨u,rfl,ru⟩:=rv.one;obtain⟨z,its,n,r,hl,e⟩:=I.lstM hH;refine call_meets F.slot_list_append ⟨_,e,rfl⟩ F.entry_list_append (F.args_list_append_2 _ _) (PySem.list_append l its.toArray n u (by rw[xad];omega)) ⟨e,?_⟩;refine⟨.non,_,I.lset (its':=its++[u]) hH e (by simp) (r.append (.cons ru .nil)) ?_,rfl,q⟩;rw[xab,List.length_singleton];omega
def rPop:V->List V->Hp->VK->Prop:=fun x vs H Q=>∃l xs y,x=.ref l/\vs=[]/\H l=some (.lst xs)/\xs[xs.length-1]?=some y/\Q y (upd H l (.lst xs.dropLast))
theorem jja:MtM X "list.pop" rPop:=by
 intro pins s σ H x vs v us Q I rx rv h;obtain⟨l,xs,y,rfl,rfl,hH,hy,q⟩:=h;cases rx;have hus:=rv.zero;subst hus;obtain⟨z,its,n,r,hl,e⟩:=I.lstM hH;obtain⟨u,hu,ru⟩:=r.get hy;have hy':its.toArray[its.toArray.size-1]?=some u:=by
  show its.toArray[its.length-1]?=some u;rw[<- Array.getElem?_toList,<- hl];exact hu
 refine call_meets F.slot_list_pop ⟨_,e,rfl⟩ F.entry_list_pop (F.args_list_pop_1 _) (MeetsSeq.list_pop_last l its.toArray n u hy' (by rw[xad];omega)) ⟨e,?_⟩;refine⟨y,_,I.lset (its':=its.dropLast) hH e ?_ r.dropLast ?_,ru,q⟩
 ·show its.toArray.eraseIdxIfInBounds (its.toArray.size-1)=its.dropLast.toArray;rw[xad,List.eraseIdxIfInBounds_toArray,jgG]
 ·rw[List.length_dropLast];omega
def rCat:R2:=fun x y H Q=>∃l b xs zs,x=.ref l/\y=.ref b/\H l=some (.lst xs)/\H b=some (.lst zs)/\xs.length+zs.length<=sizeLine/\∀p,H p=none->Q (.ref p) (upd H p (.lst (xs++zs)))
theorem jb9:OpR X (binaryOp .Add) rCat:=by
 intro pins s σ H x y v u Q I rx ry h;obtain⟨l,b,xs,zs,rfl,rfl,hH,hB,hz,q⟩:=h;cases rx;cases ry;obtain⟨z,its,n,r,hl,e⟩:=I.lstM hH;obtain⟨z2,its2,n2,r2,hl2,e2⟩:=I.lstM hB;refine PySem.P.add_list e e2 ?_ (by rw[xad,xad];omega);have ea:its.toArray++its2.toArray=(its++its2).toArray:=by simp
 rw[ea];exact⟨.ref _,_,I.lnew (t':=s.toks) (r.append r2) (by rw[xab];omega),rfl,q _ I.fresh⟩
end
end L2
namespace Att
open PySem PySem.W PySem.Calls PyProof.Rows
theorem jdT {P:Params} {h:Heap}:∀(ns:List Int) (vs:List Value),WellAll P h vs (ns.map WData.int)->IntsAre vs ns:=by
  intro ns;induction ns with
  | nil =>
    intro vs w;rw[List.map_nil] at w;cases w;exact .nil
  | cons n ns ih =>
    intro vs w;rw[xaY] at w;cases w with
    | cons a b =>
      cases a;exact .cons _ _ (ih _ b)
theorem jhh {l:OpenLaw} {n:Nat} (hn:l.most=some n) {P:Params} {h:Heap} {args:List WData} {vals:List Value}
    (hpre:l.row.toRowW.claim.pre args=true) (hwl:WellAll P h vals args) :
    ∃a vs ns,vals=[Value.ref a]/\args=[WData.list (ns.map WData.int)]/\h.get? a=some { cls:=.type "list",data:=.seq vs.toArray }/\IntsAre vs ns/\ns.length<=n:=by
  have hsh:WShape.hasAll [] args [.list .int]=true:=(pre_splitW hpre).1;have hc:l.pre.holds [] { args:=args }=true:=(pre_splitW hpre).2;obtain⟨d,r,rfl,h1,h2⟩:=hasAllW_cons hsh;obtain rfl:=hasAllW_nil h2;obtain⟨xs,rfl,h3⟩:=hasW_list h1;obtain⟨ns,rfl⟩:=items_int h3;have hlen:ns.length<=n:=by
    unfold OpenLaw.pre at hc;have h4:(WTm.not (.lt (.lit (.int (n:Int))) (.len (.arg 0)))).holds [] { args:=[.list (ns.map .int)] }=true:=by
      have h4:=(holds_andW hc).1;rw[hn] at h4;exact h4
    have h5:=condW_of h4 (w_not (w_lt w_lit (w_len_list (w_arg rfl))));rw[xaa] at h5;refine Nat.le_of_not_lt fun q=>?_;have q':(n:Int)<((ns.length:Nat):Int):=by omega
    first
      | (rw[decide_eq_true q'] at h5;exact absurd h5 (by decide))
      | (simp at h5;omega)
  cases hwl with
  | cons w1 w2 =>
    cases w2;cases w1 with
    | list ho hall=>exact⟨_,_,ns,rfl,rfl,ho,jdT ns _ hall,hlen⟩
theorem jhi (l:OpenLaw) (args:List WData):l.row.toRowW.claim.post args (.bool true) args=true :=
 postW_of (r:=l.row.toRowW) (X:=(true==true))
  (show WShape.has [] (.bool true) .bool=true by first | rfl | decide | simp [WShape.has,WShape.arms,WShape.armsAll])
  (show (WTm.eq .res (.lit (.bool true))).value [] { args:=args,res:=some (.bool true),after:=args }=some (.bool (true==true)) from w_eq_bool (w_res rfl) w_lit) rfl
theorem attach_call {l:OpenLaw} {n:Nat} {q:Program} {loose:List Str} {XP:(Str->Option Value)->Heap->Prop} {YP:World->Heap->Prop} {d:DefRec}
  (hn:l.most=some n) (hdf:d.params.defaults=[])
  (call:∀(w:World) (s₀ s₁:Shared) (mg mb:Str->Option Value) (fa:Addr) (o:Obj) (pm cd doc:Value) (a:Addr) (vs:List Value) (ns:List Int),
   Ground q loose [] XP w s₀ mg mb s₁.heap->YP w s₁.heap ->
   s₁.heap.get? fa=some o->o.data=.func (docDef d.name d.params d.body d.scope pm cd doc)->s₁.heap.CodeRec cd d.name->mg d.name=some (.ref fa) ->
   s₁.heap.get? a=some { cls:=.type "list",data:=.seq vs.toArray }->IntsAre vs ns->ns.length<=n->s₁.gens=#[] ->
   codeAny (model l.prog w) callerA (.call (.ref fa) ⟨[.ref a],[]⟩) (fun r s'=>r=.ok (.ret (.bool true))/\OldK s₁.heap s'.heap/\s'.os=s₁.os/\AllBare s'.gens) s₁) :
  WalkO q loose XP YP l.row.toRowW d [] (fun f vs=>PySem.call f vs):=by
 intro w s₀ s₁ mg mb G Y fa o pm cd doc dV kV ho hd hcd hD hmg hg args vals as hpre hlay hrd hwl hlo;obtain rfl:dV=.none:=Dflts.none hD hdf;obtain rfl:kV=.none:=Dflts.noKw hD;obtain⟨a,vs,ns,rfl,rfl,hobj,hints,hlen⟩:=jhh hn hpre hwl;refine enter_call (codeAny_mono (call w s₀ s₁ mg mb fa o pm cd doc a vs ns G Y ho (fd_plain hd) hcd hmg hobj hints hlen hg) fun r s' hq=>?_);obtain⟨rfl,h2,h3,h4⟩:=hq;exact⟨.inl ⟨.bool true,.bool true,[],rfl,fun _=>rfl,.bool true,jhi l _,fun _=>⟨List.Pairwise.nil,fun _ hm=>(nomatch hm)⟩⟩,h2,h3,h4⟩
end Att
namespace L2
open PySem PySem.Spec PyProof.Rows
theorem je6:∀{vs:List Value} {ns:List Int},IntsAre vs ns->Vals (ns.map V.int) vs
 | _,_,.nil=>.nil
 | _,_,.cons n t h=>.cons ⟨t,rfl⟩ (je6 h)
def Only (H:Hp):Prop:=∀b,H b=none\/∃o xs,H b=some (.frz o (.lst xs))
theorem jiz {P:Program} {w:World} {K:PySem.W.Frag} {mg mb:Str->Option Value} {CX:CXT} {k:Nat} {fa a:Addr} {fd:FuncData} {x:Str} {sp:Sp} {s₁:Shared} {vs:List Value} {ns:List Int}
    (KX:K.In s₁.heap) (hns:s₁.heap.Ns mainGlobals mg) (hb:s₁.heap.Ns builtinsNs mb) (hbb:∀x:Str,x≠"__name__"->mb x=bootBuiltins x) (hlim:s₁.heap.NoLimit) (hg:s₁.gens=#[])
    (ha:s₁.heap.get? a=some { cls:=.type "list",data:=.seq vs.toArray }) (hi:IntsAre vs ns) (hl:ns.length<=sizeLine) (hr:Room k callerA)
    (F:∀base:Heap,K.In base->base.Ns mainGlobals mg->FnOk P w K mg base CX k fa fd [x] sp) (hbind:∀(s:Shared) (u:Value),BindsTo s fd ⟨[u],[]⟩ [(x,u)])
    (hsp:∀H:Hp,Only H->SqL K H a (ns.map V.int)->sp [.ref a] H (fun v _=>v=.bl true) fun _ _ _=>False)
    (hCX:∀H e s',CX [] H s₁ (fun _ _ _=>False) e s'->False) :
    codeAny (model P w) callerA (.call (.ref fa) ⟨[.ref a],[]⟩) (fun r s'=>r=.ok (.ret (.bool true))/\OldK s₁.heap s'.heap/\s'.os=s₁.os/\AllBare s'.gens) s₁:=by
  have rv:=je6 hi;have lenV:=hi.length;have core:∀H:Hp,Only H->SqL K H a (ns.map V.int)->HOk P w H s₁.heap->(∀b,H b≠none->b=a)->(H a≠none->K.lookup a=none) ->
      codeAny (model P w) callerA (.call (.ref fa) ⟨[.ref a],[]⟩) (fun r s'=>r=.ok (.ret (.bool true))/\OldK s₁.heap s'.heap/\s'.os=s₁.os/\AllBare s'.gens) s₁:=by
    intro H hO hS hok hA hK;have base_of:∀{b:Addr} {o:Obj},s₁.heap.get? b=some o->H b=none->(jie s₁.heap H).get? b=some o:=fun e n=>jif e n;have noA:∀{b:Addr} {o:Obj} {es:Array DictEntry} {ep:Nat},s₁.heap.get? b=some o->o.data=.dict es ep->H b=none:=fun {b o es ep} e d=>by
      cases q:H b with
      | none=>rfl
      | some u =>
        have e':b=a:=hA b (by rw[q];simp);subst e';rw[ha] at e;cases e;have d':Data.seq vs.toArray _=Data.dict es ep:=d;cases d'
    have nsK:∀{b:Addr} {m:Str->Option Value},s₁.heap.Ns b m->(jie s₁.heap H).Ns b m:=fun {b m} ⟨o,es,ep,e,d,r⟩=>⟨o,es,ep,base_of e (noA e d),d,r⟩;have hKb:K.In (jie s₁.heap H):=fun b o e=>base_of (KX b o e) (by
      cases q:H b with
      | none=>rfl
      | some u =>
        have e':b=a:=hA b (by rw[q];simp);subst e';rw[hK (by rw[q];simp)] at e;cases e)
    have hM:Mod K mg (jie s₁.heap H):=⟨hKb,nsK hns,⟨mb,nsK hb,hbb⟩,let ⟨mc,h1,h2⟩:=hlim;⟨mc,nsK h1,h2⟩⟩;have e0:Env0 P w K mg (jie s₁.heap H) callerA [] s₁ H:=⟨rfl,hM,fun b o e=>jjB e,Nat.le_of_eq (jgT _ _),trivial,fun b hb=>absurd (show b∈([]:List Addr) from hb) (by simp),hok,.of_eq hg⟩;refine codeAny_mono ((F _ hKb (nsK hns)).run callerA [] s₁ H ⟨[.ref a],[]⟩ [.ref a] [.ref a] _ _ hr e0 (hbind s₁ (.ref a)) (.cons rfl .nil) (hsp H hO hS)) fun r s' h=>?_;cases r with
    | error e=>exact (hCX H e s' h).elim
    | ok fl =>
      cases fl with
      | next=>exact False.elim h
      | brk=>exact False.elim h
      | cont=>exact False.elim h
      | ret u =>
        obtain⟨v,H',os,bare,un,hok',r',q⟩:=h;have q':v=.bl true:=q;subst q';obtain rfl:u=Value.bool true:=r';refine⟨rfl,OldK.of_keep fun b o e=>?_,os,bare⟩;cases q:H b with
        | none=>exact un.keep b o e q (by intro z;exact absurd (show b∈([]:List Addr) from z) (by simp)) (by simp)
        | some u =>
          rcases hO b with z | ⟨ob,xs,z⟩
          . rw[q] at z;cases z
          . have z2:=un.frzs b ob _ z
            obtain⟨e1,_⟩:=hok b _ z;obtain⟨e2,_⟩:=hok' b _ z2;rw[e] at e1;cases e1;exact e2
  cases hk:K.lookup a with
  | some o =>
    have e:=KX a o hk;rw[ha] at e;cases e;refine core (fun _=>none) (fun _=>.inl rfl) (.inr ⟨_,vs.toArray,_,hk,rfl,rfl,rfl,by rw[xad,lenV];exact hl,by simpa using rv⟩) (fun b u z=>by have z':(none:Option HO)=some u:=z;cases z') (fun b z=>absurd rfl z) fun z=>absurd rfl z
  | none =>
    refine core (fun b=>if b=a then some (.frz { cls:=.type "list",data:=.seq vs.toArray } (.lst (ns.map V.int))) else none) (fun b=>?_) (.inl (.inr ⟨{ cls:=.type "list",data:=.seq vs.toArray },if_pos rfl⟩)) (fun b u z=>?_) (fun b z=>?_) fun _=>hk
    . by_cases hb:b=a
      . exact .inr ⟨_,_,if_pos hb⟩
      . exact .inl (if_neg hb)
    . by_cases hb:b=a
      . have z':=(if_pos hb).symm.trans z
        cases z';subst hb;exact⟨ha,by rw[xaa];exact hl,vs,_,rv,ha⟩
      . have z':=(if_neg hb).symm.trans z
        cases z'
    . by_cases hb:b=a
      . exact hb
      . exact absurd (if_neg hb) z
theorem jjX {l:PySem.W.OpenLaw} {n k:Nat} {q:Program} {loose:List Str} {XP:(Str->Option Value)->Heap->Prop} {YP:World->Heap->Prop} {d:DefRec} {K:Params->PySem.W.Frag} {CX:World->CXT} {sp:World->Sp} {x:Str}
    (hn:l.most=some n) (hn2:n<=sizeLine) (hdf:d.params.defaults=[]) (hr:Room k callerA)
    (hY:∀(w:World) (h:Heap),YP w h->(K w.params).In h)
    (F:∀(w:World) (mg:Str->Option Value) (fa:Addr) (h:Heap),(K w.params).In h->h.Ns mainGlobals mg->mg d.name=some (.ref fa) ->
      ∃ fd : FuncData, (∀ (s : Shared) (u : Value), BindsTo s fd ⟨[u], []⟩ [(x, u)]) /\
        ∀base:Heap,(K w.params).In base->base.Ns mainGlobals mg->FnOk l.prog w (K w.params) mg base (CX w) k fa fd [x] (sp w))
    (hsp:∀(w:World) (H:Hp) (a:Addr) (ns:List Int),ns.length<=n->Only H->SqL (K w.params) H a (ns.map V.int)->sp w [.ref a] H (fun v _=>v=.bl true) fun _ _ _=>False)
    (hCX:∀(w:World) (H:Hp) (s:Shared) (e:Value) (s':Shared),CX w [] H s (fun _ _ _=>False) e s'->False) :
    PySem.W.WalkO q loose XP YP l.row.toRowW d [] (fun f vs=>PySem.call f vs):=by
  refine Att.attach_call hn hdf fun w s₀ s₁ mg mb fa o pm cd doc a vs ns G Y ho hd hcd hmg hobj hints hlen hg=>?_;have KX:=hY w _ Y;obtain⟨fd,hb,hF⟩:=F w mg fa _ KX G.T.g hmg;exact jiz KX G.T.g G.T.b G.T.builtins G.T.nolimit hg hobj hints (xaw hlen hn2) hr hF hb (fun H hO hS=>hsp w H a ns hlen hO hS) fun H e s'=>hCX w H s₁ e s'
def jbU (s:Stmt) (j:Nat):Stmt:=match s with
 | .ClassDef _ _ _ body _ _ _ _ _ _ _=>body.getD j (.Pass ⟨0,0,0,0⟩)
 | _=>.Pass ⟨0,0,0,0⟩
def jby (s:Stmt):Arguments:=match s with
 | .FunctionDef _ a _ _ _ _ _ _ _ _=>a
 | _=>{ posonlyargs:=[],args:=[],vararg:=none,kwonlyargs:=[],kw_defaults:=[],kwarg:=none,defaults:=[] }
def jaX (s:Stmt):List Stmt:=match s with
 | .FunctionDef _ _ b _ _ _ _ _ _ _=>b
 | _=>[]
def jag (s:Stmt):Scope:=match s with
 | .FunctionDef _ _ _ _ _ _ sc _ _ _=>sc
 | _=>{ kind:=.function,names:=[],isGenerator:=false,isCoroutine:=false }
abbrev CX0:CXT:=fun _ _ _ _ _ _=>False
abbrev E0:XK:=fun _ _ _=>False
theorem jaA {X:Cx}:jb8 CX0 X E0:=fun _ _ _ _ _ _ _ h=>h.elim
theorem jhj {n:Nat} (h:n<=1000):n<sizeLine:=xaQ h (by decide)
section
variable {X:Cx}
theorem pv (i:Nat) {x:Str} {pos:Pos} (hN:X.N[i]?=some x:=by rfl) (hv:Vis X.env.scope x:=by first | exact Or.inl rfl | exact Or.inr (Or.inl rfl) | exact Or.inr (Or.inr rfl)) (hd:(x==("__debug__":Str))=false:=by decide)
  (hcd:(x==("__classdict__":Str))=false:=by decide):PE X (.Name x pos) (jgU i):=jkN hN hv hd hcd
end
theorem iteF {A B:Prop} (h:B):if false=true then A else B:=by
 rw[if_neg xan];exact h
theorem iteT {A B:Prop} (h:A):if true=true then A else B:=by
 rw[if_pos rfl];exact h
theorem jbR {c A B:Prop} [Decidable c] (h1:c->A) (h2:¬c->B):if c then A else B:=by
 by_cases h:c
 ·rw[if_pos h];exact h1 h
 ·rw[if_neg h];exact h2 h
def Same (H H':Hp):Prop:=∀b o,H b=some o->H' b=some o
theorem Same.refl (H:Hp):Same H H:=fun _ _ h=>h
theorem Same.trans {H H1 H2:Hp} (a:Same H H1) (b:Same H1 H2):Same H H2:=fun c o h=>b c o (a c o h)
theorem Same.free {H H':Hp} (e:Same H H') {l:Addr} (h:H' l=Option.none):H l=Option.none:=by
  cases q:H l with
  | none=>rfl
  | some o =>
    rw[e l o q] at h;cases h
theorem Same.seq {K:PySem.W.Frag} {H H':Hp} {a:Addr} {xs:List V} (e:Same H H') (h:SqL K H a xs):SqL K H' a xs:=by
 rcases h with (h | ⟨o,h⟩) | h
 ·exact .inl (.inl (e _ _ h))
 ·exact .inl (.inr ⟨o,e _ _ h⟩)
 ·exact .inr h
section
variable {prog:Program} {w:World} {A:Around} {R:Result->Shared->Prop} {s:Shared}
theorem je7 {elt target iter:Expr} {ifs:List Expr} {scope:Scope} {pos:Pos} {it acc:Value} {env:Env} (I:Nat->Shared->Prop)
    (turn:∀n s,I n s->wpAny (model prog w) A (pyNext it) (fun r s₁=>match r with
      | none=>R (.ok .next) s₁
      | some v=>wpAny (model prog w) A (letOwnedTupleGo target it v) (fun _ s₁'=>wpAny (model prog w) A (assign target env v) (fun _ s₂ =>
          wpAny (model prog w) A (forIn ifs true fun c r=>if r=true then do let ok <- isTrue c env (eval c env);pure (ForInStep.yield ok) else pure (ForInStep.yield r)) (fun ok s₃ =>
            if ok=true then wpAny (model prog w) A (eval elt env) (fun x s₄ =>
              wpAny (model prog w) A (call (.builtin "list.append") [acc,x]) (fun _ s₅=>∃m,m<n/\I m s₅) (notedBy (model prog w) A env fun e s'=>R (.error e) s') s₄) (notedBy (model prog w) A env fun e s'=>R (.error e) s') s₃
            else ∃m,m<n/\I m s₃) (notedBy (model prog w) A env fun e s'=>R (.error e) s') s₂) (notedBy (model prog w) A env fun e s'=>R (.error e) s') s₁') (notedBy (model prog w) A env fun e s'=>R (.error e) s') s₁) (notedBy (model prog w) A env fun e s'=>R (.error e) s') s)
    (n:Nat) (h:I n s) :
    codeAny (model prog w) A (.compLoop (.ListComp elt [⟨target,iter,ifs,0⟩] scope pos) 0 it acc env) R s:=by
  refine codeAny_loop rfl I (fun n s hI=>?_) n h;show wpAny _ A ((compTurn (.ListComp elt [⟨target,iter,ifs,0⟩] scope pos) 0 it acc env).onRaise (fun x=>do noteFrame x env;theTreesLotGoes x)) _ _ s;refine wpAny_noted ?_;rw[compTurn_list];refine wpAny_bind (wpAny_standAt (wpAny_bind (wpAny_mono (turn n s hI) (fun r s₁ h₁=>?_) fun _ _ h'=>h')));cases r with
  | none=>exact wpAny_pure h₁
  | some v =>
    refine wpAny_bind (wpAny_mono h₁ (fun _ s₁' h₁'=>?_) fun _ _ h'=>h');refine wpAny_bind (wpAny_mono h₁' (fun _ s₂ h₂=>wpAny_bind (wpAny_mono h₂ (fun ok s₃ h₃=>?_) fun _ _ h'=>h')) fun _ _ h'=>h');cases ok with
    | false=>exact wpAny_pure ⟨rfl,h₃⟩
    | true =>
      exact wpAny_bind (wpAny_bind (wpAny_mono h₃ (fun x s₄ h₄=>wpAny_bind (wpAny_mono h₄ (fun _ s₅ h₅=>wpAny_pure (wpAny_pure ⟨rfl,h₅⟩)) fun _ _ h'=>h')) fun _ _ h'=>h'))
end
theorem jdk {env:Env}:∀(names:List (Str × NameKind)) (cs:List (Str × Addr)),(∀y∈names,y.2=.free->∃c,env.cells.lookup y.1=some c) ->
    (∀y c,cs.lookup y=some c->env.cells.lookup y=some c) ->
    ∃cl:List (Str × Addr),(forIn (m:=Sem) names cs fun x r=>do
        if (x.2==NameKind.free)=true then do
          let a <- cellOf env x.1
          pure (ForInStep.yield ((x.1,a)::r))
        else pure (ForInStep.yield r))=pure cl/\(∀y c,cl.lookup y=some c->env.cells.lookup y=some c) /\
      (∀y,((y,NameKind.free)∈names\/∃c,cs.lookup y=some c)->∃c,cl.lookup y=some c)
  | [],cs,_,hc=>⟨cs,rfl,hc,fun y h=>h.elim (fun z=>nomatch z) id⟩
  | (n, k) :: r, cs, hn, hc => by
    by_cases hk:k=.free
    . subst hk
      obtain⟨c,e⟩:=hn (n,.free) xaE rfl;have hc':∀y d,((n,c)::cs).lookup y=some d->env.cells.lookup y=some d:=fun y d q=>by
        rw[xau] at q;cases z:y==n with
        | true =>
          rw[z] at q;have:=beq_iff_eq.mp z;subst this;cases q;exact e
        | false=>rw[z] at q;exact hc y d q
      obtain⟨cl,h1,h2,h3⟩:=jdk r ((n,c)::cs) (fun y hy=>hn y (xar _ hy)) hc';refine⟨cl,?_,h2,fun y hy=>h3 y ?_⟩
      . rw[List.forIn_cons]
        have ec:cellOf env n=pure c:=by unfold cellOf;rw[e]
        show ((if (NameKind.free==NameKind.free)=true then _ else _) >>= _)=_;rw[if_pos (by rfl)];show ((cellOf env n >>= _) >>= _)=_;rw[ec];exact h1
      . rcases hy with hy | ⟨d,hy⟩
        . rcases xaf.mp hy with z | z
          . cases z
            exact .inr ⟨c,by rw[xau,beq_self_eq_true]⟩
          . exact .inl z
        . refine .inr ?_
          rw[xau];cases z:y==n with
          | true=>exact⟨c,rfl⟩
          | false=>exact⟨d,hy⟩
    . obtain⟨cl,h1,h2,h3⟩:=jdk r cs (fun y hy=>hn y (xar _ hy)) hc
      refine⟨cl,?_,h2,fun y hy=>h3 y ?_⟩
      . rw[List.forIn_cons]
        have hb:(k==NameKind.free)=false:=by simpa using hk
        show ((if (k==NameKind.free)=true then _ else _) >>= _)=_;rw[if_neg (by rw[hb];decide)];exact h1
      . rcases hy with hy | hy
        . rcases xaf.mp hy with z | z
          . cases z;exact absurd rfl hk
          . exact .inl z
        . exact .inr hy
theorem jdl {env:Env} {scope:Scope} (hn:∀y∈scope.names,y.2=.free->∃c,env.cells.lookup y.1=some c) :
  ∃cl:List (Str × Addr),closureFor scope env=pure cl/\(∀y c,cl.lookup y=some c->env.cells.lookup y=some c)/\(∀y,(y,NameKind.free)∈scope.names->∃c,cl.lookup y=some c):=by
 obtain⟨cl,h1,h2,h3⟩:=jdk (env:=env) scope.names [] hn (fun y c q=>nomatch q);refine⟨cl,?_,h2,fun y hy=>h3 y (.inl hy)⟩;unfold closureFor;show (_ >>= fun cs=>pure cs)=_;have e:∀m:Sem (List (Str × Addr)),(m >>= fun cs=>pure cs)=m:=fun m=>bind_pure m;rw[e];exact h1
inductive Ixs (N:List Str) (sc cs:Scope):List Str->List Nat->Prop
 | nil:Ixs N sc cs [] []
 | cons {y r j q} (h1:N[j]?=some y) (h2:sc.names.lookup y=some .cell\/sc.names.lookup y=some .free) (h3:cs.names.lookup y=some .free) (t:Ixs N sc cs r q):Ixs N sc cs (y::r) (j::q)
structure CompScope (N:List Str) (sc:Scope) (N':List Str) (ix:List Nat) (x:Str) (r:List Str) (cs:Scope):Prop where
 eq:N'=x::r
 kind:cs.kind=.function
 hcell:∀y∈cs.names,y.2≠.cell
 hnames:∀y∈cs.names,y.2=.local->cs.names.lookup y.1=some .local
 hx:cs.names.lookup x=some .local
 nd:(x::r).Nodup
 fr:∀y∈cs.names,y.2=.free->sc.names.lookup y.1=some .cell\/sc.names.lookup y.1=some .free
 ixs:Ixs N sc cs r ix
def jaL (σ:St) (ix:List Nat):St:=ix.map fun j=>(σ[j]?).getD none
def jjb (X:Cx) (N':List Str) (cs:Scope) (cl:List (Str × Addr)) (s3:Shared) (H3:Hp) (fp:List Addr):Cx :=
 { X with N:=N',s₀:=s3,H₀:=H3,env:=compEnvC cs cl s3.heap.objs.size X.env,outer:=X.stack,stack:=X.stack,ex:=fp,fn:=fun _=>false,pn:=[],xe:=fun _ _=>False }
theorem jdx {env:Env} {cs:Scope} (hcell:∀y∈cs.names,y.2≠.cell) {y:Str} {k:NameKind} (h:(relabel cs env).names.lookup y=some k) (hk:k=.cell\/k=.free):(y,NameKind.free)∈cs.names:=by
 have m:=PySem.mem_of_lookup h;obtain⟨⟨n,k0⟩,h1,h2⟩:=xaB.mp m;by_cases c:(k0==NameKind.free&&env.scope.kind==.function&&env.kindOf n==some .cell)=true
 ·have h2':(n,NameKind.cell)=(y,k):=by rw[<- h2];exact (if_pos c).symm
  cases h2';have:k0=.free:=by
   have z:=(xa2.mp (xa2.mp c).1).1;exact beq_iff_eq.mp z
  rw[this] at h1;exact h1
 ·have h2':(n,k0)=(y,k):=by rw[<- h2];exact (if_neg c).symm
  cases h2';rcases hk with rfl | rfl
  ·exact absurd rfl (hcell _ h1)
  ·exact h1
theorem jbe {env:Env}:∀{names:List (Str × NameKind)} {x:Str},names.lookup x=some .free ->
    (names.map fun (n,k)=>if (k==NameKind.free&&env.scope.kind==.function&&env.kindOf n==some .cell) then (n,NameKind.cell) else (n,k)).lookup x=some .cell \/
    (names.map fun (n,k)=>if (k==NameKind.free&&env.scope.kind==.function&&env.kindOf n==some .cell) then (n,NameKind.cell) else (n,k)).lookup x=some .free
  | [],_,h=>by simp at h
  | (n, k) :: r, x, h => by
    have ih:=@jbe env r x;rw[xaY];show List.lookup x ((if (k==NameKind.free&&env.scope.kind==.function&&env.kindOf n==some .cell)=true then (n,NameKind.cell) else (n,k))::_)=_\/List.lookup x ((if (k==NameKind.free&&env.scope.kind==.function&&env.kindOf n==some .cell)=true then (n,NameKind.cell) else (n,k))::_)=_;cases hx:x==n with
    | true =>
      simp only[xau,hx] at h;cases h;by_cases hc:(NameKind.free==NameKind.free&&env.scope.kind==.function&&env.kindOf n==some .cell)=true
      . rw[if_pos hc];exact .inl (by simp only[xau,hx])
      . rw[if_neg hc];exact .inr (by simp only[xau,hx])
    | false =>
      simp only[xau,hx] at h;by_cases hc:(k==NameKind.free&&env.scope.kind==.function&&env.kindOf n==some .cell)=true
      . rw[if_pos hc];simp only[xau,hx];exact ih h
      . rw[if_neg hc];simp only[xau,hx];exact ih h
theorem Ixs.get {N:List Str} {sc cs:Scope}:∀{r:List Str} {ix:List Nat},Ixs N sc cs r ix->∀{i:Nat} {y:Str},r[i]?=some y ->
    ∃j,ix[i]?=some j/\N[j]?=some y/\(sc.names.lookup y=some .cell\/sc.names.lookup y=some .free)/\cs.names.lookup y=some .free
  | _,_,.nil,i,y,h=>by simp at h
  | _,_,.cons h1 h2 h3 t,0,y,h=>by simp at h;subst h;exact⟨_,rfl,h1,h2,h3⟩
  | _, _, .cons h1 h2 h3 t, i + 1, y, h => by
    obtain⟨j,a,b⟩:=Ixs.get t (i:=i) (y:=y) (by simpa using h);exact⟨j,by simpa using a,b⟩
theorem Ixs.len {N:List Str} {sc cs:Scope}:∀{r:List Str} {ix:List Nat},Ixs N sc cs r ix->r.length=ix.length
 | _,_,.nil=>rfl
 | _,_,.cons _ _ _ t=>by rw[xax,xax,t.len]
section
variable {X:Cx} {pins:List (Addr × Obj)} {σ:St} {H:Hp} {s:Shared}
theorem Inv.compOk {N' r:List Str} {ix:List Nat} {x:Str} {cs:Scope} {cl:List (Str × Addr)} {fp:List Addr} (I:Inv X pins σ H s) (S:CompScope X.N X.env.scope N' ix x r cs)
  (h2:∀y c,cl.lookup y=some c->X.env.cells.lookup y=some c) (h3:∀y,(y,NameKind.free)∈cs.names->∃c,cl.lookup y=some c) (hf:∀b∈fp,jfX X pins H b) (hfp:∀b∈fp,b<s.heap.objs.size) :
  (jjb X N' cs cl s H fp).Ok where
 mod:=I.ok.mod
 kind:=S.kind
 glob:=I.ok.glob
 blt:=I.ok.blt
 above:=xac _
 inj:=fun a b c ha hb=>I.ok.inj a b c (h2 a c ha) (h2 b c hb)
 has:=fun y hy=>h3 y (hy.elim (fun z=>jdx S.hcell z (.inl rfl)) fun z=>jdx S.hcell z (.inr rfl))
 cab:=fun _ _ z=>nomatch z
 hd:=I.ok.hd
 frames:=I.ok.frames
 stk:=.inl rfl
 exf:=fun b hb=>⟨xas (hfp b hb),fun y c e=>(hf b hb).2.2.2.2.1 y c (h2 y c e)⟩
 bs:=I.bs
 bsz:=xaw I.ok.bsz I.sz
 noex:=fun b o e hb=>by
  rcases (hf b hb).2.2.2.1 with z | z
  ·exact I.ok.noex b o e z
  ·exact absurd (xah (Heap.lt_size e) (xaw I.ok.bsz z)) (xaM _)
 exfs:=fun b hb hs=>by
  rcases xaf.mp (I.stkSub b hs) with z | z
  ·exact (hf b hb).2.1 z
  ·exact (hf b hb).2.2.1 z
 funs:=I.stack
 frf:=I.stkFree
theorem jdU {σ:St} {ix:List Nat} {i:Nat} {v:V} (h:(jaL σ ix)[i]?=some (some v)):∃j,ix[i]?=some j/\σ[j]?=some (some v):=by
  unfold jaL at h;rw[xak] at h;cases e:ix[i]? with
  | none=>rw[e] at h;cases h
  | some j =>
    rw[e] at h;refine⟨j,rfl,?_⟩;cases q:σ[j]? with
    | none =>
      have h':((σ[j]?).getD none)=some v:=by simpa using h
      rw[q] at h';cases h'
    | some o =>
      have h':((σ[j]?).getD none)=some v:=by simpa using h
      rw[q] at h';cases o with
      | none=>cases h'
      | some u=>cases h';rfl
theorem Inv.compStart {N' r:List Str} {ix:List Nat} {x:Str} {cs:Scope} {cl:List (Str × Addr)} {fp:List Addr} {h1:Heap} {tk:Nat} {m:Str->Option Value} (I:Inv X pins σ H s) (S:CompScope X.N X.env.scope N' ix x r cs)
    (h2:∀y c,cl.lookup y=some c->X.env.cells.lookup y=some c) (h3:∀y,(y,NameKind.free)∈cs.names->∃c,cl.lookup y=some c) (hf:∀b∈fp,jfX X pins H b) (hfp:∀b∈fp,b<s.heap.objs.size)
    (hn:h1.Ns s.heap.objs.size m) (hk:∀b o,s.heap.get? b=some o->h1.get? b=some o) :
    Inv (jjb X N' cs cl s H fp) [] (none::jaL σ ix) H { s with heap:=h1,toks:=tk }:=by
  have ok:=I.compOk (N':=N') (fp:=fp) S h2 h3 hf hfp;obtain⟨mo,hno,hlo⟩:=id I.loc;refine⟨ok,rfl,I.bare,Un.kept hk,⟨m,hn,fun i y v e1 e2 e3=>?_⟩,fun y c e=>?_,I.hok.fresh (xac _),fun y c e=>I.freeC y c (h2 y c e),fun p hp=>absurd (show p∈([]:List (Addr × Obj)) from hp) (by simp),I.hok.kept hk,?_⟩
  . cases i with
    | zero=>cases e2
    | succ i =>
      have e1':r[i]?=some y:=by
        have:N'[i+1]?=some y:=e1;rw[S.eq] at this;simpa using this
      obtain⟨j,j1,j2,j3,j4⟩:=S.ixs.get e1';obtain⟨j',k1,k2⟩:=jdU (σ:=σ) (ix:=ix) (i:=i) (v:=v) (by simpa using e2);rw[j1] at k1;cases k1;obtain⟨u,ru,lk⟩:=hlo j y v j2 k2 (j3.elim (fun z=>.inr (.inl z)) fun z=>.inr (.inr z));refine⟨u,ru,?_⟩;obtain⟨c,hc⟩:=h3 y (PySem.mem_of_lookup j4);rcases lk with ⟨k,_⟩ | ⟨k,c',e',z⟩
      . have k':X.env.scope.names.lookup y=some .local:=k
        rcases j3 with q | q<;>(rw[q] at k';cases k')
      . rw[h2 y c hc] at e'
        cases e';refine .inr ⟨?_,c,hc,?_⟩
        . exact jbe (env:=X.env) j4
        . obtain⟨o,ho,hd⟩:=z
          exact⟨o,hk c o ho,hd⟩
  . obtain⟨v,o,ho,hd⟩:=I.cell y c (h2 y c e)
    exact⟨v,o,hk c o ho,hd⟩
  . show (none::jaL σ ix).length=N'.length
    rw[S.eq,xax,xax,S.ixs.len];unfold jaL;rw[xaa]
def PTs (X:Cx) (ifs:List Expr) (t:TT):Prop :=
  ∀ (E : Value -> Shared -> Prop) (pins : List (Addr × Obj)) (s : Shared) (σ : St) (H : Hp) (Q : Bool -> Hp -> Prop), (∀ e s', X.xe e s' -> E e s') -> Inv X pins σ H s -> t σ H Q ->
    wpAny (model X.prog X.w) X.A (forIn ifs true fun c r=>if r=true then do let ok <- isTrue c X.env (eval c X.env);pure (ForInStep.yield ok) else pure (ForInStep.yield r)) (TP X pins σ Q) E s
def jcg:TT:=fun _ H Q=>Q true H
theorem jbb {X:Cx}:PTs X [] jcg:=fun _ _ _ _ H _ _ I h=>wpAny_tests_nil ⟨H,I,h⟩
theorem jjY {X:Cx} {c:Expr} {t:TT} (h:PT X c t):PTs X [c] t:=fun _ pins s σ H Q hE I q=>wpAny_tests_one (wpAny_mono (h pins s σ H Q I q) (fun _ _ z=>z) hE)
def CompGo (J:It) (ρ:St) (g:TG) (tt:TT) (te:TE) (acc:Addr) (Z:Hp->Prop) (H1:Hp):Prop :=
  ∃ W : Nat -> Nat -> List V -> Hp -> Prop, (∃ m, W 0 m [] (upd H1 acc (.lst []))) /\ ∀ i m xs H, W i m xs H ->
    ((J.stop i H /\ Z H) \/ (J.go i H /\ ∃ (Nx : V -> Hp -> Prop) (Nn : Hp -> Prop), (∀ y H4, Nx y H4 -> H4 acc = some (.lst xs) /\ xs.length < sizeLine /\ ∃ m', m' < m /\ W (i + 1) m' (xs ++ [y]) (upd H4 acc (.lst (xs ++ [y])))) /\
      (∀H3,Nn H3->∃m',m'<m/\W (i+1) m' xs H3)/\∀v0 x H',J.yld i H x H'->g x (v0::ρ) H' fun σ2 H2=>(∃v,σ2=v::ρ)/\tt σ2 H2 fun b H3=>if b=true then te σ2 H3 Nx else Nn H3))
end
section
variable {X:Cx} {N' r:List Str} {ix:List Nat} {x:Str} {cs:Scope} {tg iter elt:Expr} {ifs:List Expr} {pos:Pos} {wi:TI} {g:TG} {tt:TT} {te:TE}
def jfy (wi:TI) (ix:List Nat) (g:TG) (tt:TT) (te:TE):TE:=fun σ H Q=>wi σ H fun J H1=>∀acc,H1 acc=none->CompGo J (jaL σ ix) g tt te acc (fun H'=>Q (.ref acc) H') H1
theorem CompScope.clos {sc:Scope} {N:List Str} (S:CompScope N sc N' ix x r cs) {env:Env} (he:env.scope=sc) (has:∀y,(env.kindOf y=some .cell\/env.kindOf y=some .free)->∃c,env.cells.lookup y=some c) :
  ∃cl:List (Str × Addr),closureFor cs env=pure cl/\(∀y c,cl.lookup y=some c->env.cells.lookup y=some c)/\(∀y,(y,NameKind.free)∈cs.names->∃c,cl.lookup y=some c) :=
 jdl fun y hy hk=>has y.1 (by
  subst he;exact S.fr y hy hk)
end
section
variable {ρ:St} {g:TG} {tt:TT} {te:TE} {acc:Addr} {Z:Hp->Prop} {H1:Hp}
theorem jdm {lo:Int} {n:Nat} (Pv:Nat->List V->Hp->Prop) (h0:Pv 0 [] (upd H1 acc (.lst [])))
  (hs:∀i xs H,i<n->Pv i xs H->te (some (.int (lo+i))::ρ) H fun y H4=>H4 acc=some (.lst xs)/\xs.length<sizeLine/\Pv (i+1) (xs++[y]) (upd H4 acc (.lst (xs++[y]))))
  (hd:∀xs H,Pv n xs H->Z H):CompGo (Itr lo n) ρ (jbL 0) jcg te acc Z H1:=by
 refine⟨fun i m xs H=>Pv i xs H/\i<=n/\m=n-i,⟨n,h0,xaN _,rfl⟩,?_⟩;rintro i m xs H ⟨hp,hi,rfl⟩;by_cases hlt:i<n
 ·refine .inr ⟨hlt,(fun y H4=>H4 acc=some (.lst xs)/\xs.length<sizeLine/\Pv (i+1) (xs++[y]) (upd H4 acc (.lst (xs++[y])))),fun _=>False,fun y H4 q=>⟨q.1,q.2.1,n-(i+1),by omega,q.2.2,hlt,rfl⟩,fun _ z=>z.elim,?_⟩;rintro v0 x H' ⟨rfl,rfl⟩;exact⟨⟨_,rfl⟩,by simp only[jcg,if_true];exact hs i xs H' hlt hp⟩
 ·have:i=n:=by omega
  subst this;exact .inl ⟨xac _,hd xs H hp⟩
theorem jf4 {K:PySem.W.Frag} {a:Addr} {zs:List V} (Pv:Nat->List V->Hp->Prop) (h0:Pv 0 [] (upd H1 acc (.lst []))) (hl:∀i xs H,i<=zs.length->Pv i xs H->SqT K H a zs)
  (hs:∀i z xs H,zs[i]?=some z->Pv i xs H->te (some z::ρ) H fun y H4=>H4 acc=some (.lst xs)/\xs.length<sizeLine/\Pv (i+1) (xs++[y]) (upd H4 acc (.lst (xs++[y]))))
  (hd:∀xs H,Pv zs.length xs H->Z H):CompGo (Itt K a) ρ (jbL 0) jcg te acc Z H1:=by
 refine⟨fun i m xs H=>Pv i xs H/\i<=zs.length/\m=zs.length-i,⟨zs.length,h0,xaN _,rfl⟩,?_⟩;rintro i m xs H ⟨hp,hi,rfl⟩;have sq:=hl i xs H hi hp;by_cases hlt:i<zs.length
 ·refine .inr ⟨⟨zs,zs[i],sq,xae hlt⟩,(fun y H4=>H4 acc=some (.lst xs)/\xs.length<sizeLine/\Pv (i+1) (xs++[y]) (upd H4 acc (.lst (xs++[y])))),fun _=>False,fun y H4 q=>⟨q.1,q.2.1,zs.length-(i+1),by omega,q.2.2,hlt,rfl⟩,fun _ z=>z.elim,?_⟩;rintro v0 x H' ⟨rfl,hx⟩;exact⟨⟨_,rfl⟩,by simp only[jcg,if_true];exact hs i x xs H' (hx zs sq) hp⟩
 ·have:i=zs.length:=by omega
  subst this;exact .inl ⟨⟨zs,sq,xac _⟩,hd xs H hp⟩
end
end L2
namespace L2
open PySem PySem.Spec PyProof.Rows
section
variable {X:Cx}
theorem jdn {k:Int} {n:Nat} (h:k.natAbs<2^n):Builtin.Int.intBits k<=n:=by
 unfold Builtin.Int.intBits;split
 ·exact xaN _
 ·rename_i h0
  have hk:k.natAbs≠0:=by
   intro z;apply h0;have:k=0:=Int.natAbs_eq_zero.mp z;subst this;rfl
  have:k.natAbs.log2<n:=(Nat.log2_lt hk).mpr h;omega
def Fit (i:Int):Prop:=i.natAbs<2^8000
theorem Fit.mul {i j:Int} (hi:Fit i) (hj:Fit j):IntMulOk i j:=by
 have h1:=jdn hi;have h2:=jdn hj;unfold IntMulOk;intro h;have h3:=(xa2.mp h).2;unfold Builtin.Int.intTooBig at h3;have h4:=of_decide_eq_true h3;have h5:(bitsLine:Int)=134217728:=by decide
 omega
theorem jav:OpR X (binaryOp .Mult) (rI (fun i j=>Fit i/\Fit j) fun i j=>.int (i*j)):=opI fun _ _ _ _ _ _ _ hc q=>mul_int q (hc.1.mul hc.2)
theorem Fit.log {i:Int} (h:Fit i):i.natAbs.log2<9000:=by
 by_cases h0:i.natAbs=0
 ·rw[h0];decide +kernel
 ·have:=(Nat.log2_lt h0).mpr h;omega
theorem jas:OpR X (binaryOp .FloorDiv) (rI (fun _ j=>0<j/\Fit j) fun i j=>.int (i / j)):=opI fun i j _ _ _ _ _ hc q=>by
 have h1:(0:Int)<j:=hc.1;exact floordiv_int (by omega) (by rw[Int.fdiv_eq_ediv_of_nonneg i (by omega)];exact q) (.inl (PyProof.noPylong_of_log2 hc.2.log))
theorem Fit.of {i:Int} {n:Nat} (h:i.natAbs<2^n) (hn:n<=8000:=by decide):Fit i:=xah h (xbp (by decide) hn)
theorem jfz:jcQ X (.builtin "isinstance") (fun xs H Q=>∃x c t b,xs=[x,.ty c]/\TyOf X.K H x t/\PySem.W.kitOne X.K t (.type c)=some b/\Q (.bl b) H):=by
 intro pins s σ H xs us Q I r h;obtain⟨x,c,t,b,rfl,ty,e,q⟩:=h;obtain⟨u,w',rfl,r1,r2⟩:=jiq r;cases r2;exact jg7 I r1 ty e fun tk=>⟨.bl b,H,I.tok tk,rfl,q⟩
mutual
inductive Rds (K:PySem.W.Frag) (H:Hp):V->PyData->Prop
 | non:Rds K H .non .none
 | bl (b:Bool):Rds K H (.bl b) (.bool b)
 | int (i:Int):Rds K H (.int i) (.int i)
 | str (x:Str):Rds K H (.str x) (.str x)
 | lst {a:Addr} {xs:List V} {ds:List PyData} (h:SqL K H a xs) (t:RdsAll K H xs ds):Rds K H (.ref a) (.list ds)
 | tup {a:Addr} {xs:List V} {ds:List PyData} (h:SqT K H a xs) (t:RdsAll K H xs ds):Rds K H (.ref a) (.tuple ds)
inductive RdsAll (K:PySem.W.Frag) (H:Hp):List V->List PyData->Prop
 | nil:RdsAll K H [] []
 | cons {v:V} {vs:List V} {d:PyData} {ds:List PyData} (h:Rds K H v d) (t:RdsAll K H vs ds):RdsAll K H (v::vs) (d::ds)
end
mutual
theorem Rds.reads {pins:List (Addr × Obj)} {σ:St} {H:Hp} {s:Shared} (I:Inv X pins σ H s):∀{x:V} {d:PyData} {u:Value},Rds X.K H x d->RelV x u->∃as,Reads s.heap u d as
  | _,_,_,.non,r=>by cases r;exact⟨_,.none⟩
  | _,_,_,.bl b,r=>by cases r;exact⟨_,.bool b⟩
  | _,_,_,.int i,r=>by obtain⟨t,rfl⟩:=r;exact⟨_,.int i t⟩
  | _,_,_,.str x,r=>by obtain⟨t,rfl⟩:=r;exact⟨_,.str x t⟩
  | _, _, _, .lst h t, r => by
    cases r;obtain⟨its,rv,pl,_⟩:=I.list h;obtain⟨o,ho,hc,n,hd⟩:=pl.isList;obtain⟨as,q⟩:=RdsAll.reads I t rv;exact⟨_,.list ho hc hd q⟩
  | _, _, _, .tup h t, r => by
    cases r;obtain⟨its,rv,pl,_⟩:=I.tuple h;obtain⟨o,ho,hc,n,hd⟩:=pl;obtain⟨as,q⟩:=RdsAll.reads I t rv;exact⟨_,.tuple ho hc hd q⟩
theorem RdsAll.reads {pins:List (Addr × Obj)} {σ:St} {H:Hp} {s:Shared} (I:Inv X pins σ H s):∀{xs:List V} {ds:List PyData} {us:List Value},RdsAll X.K H xs ds->Vals xs us->∃as,ReadsAll s.heap us ds as
  | _,_,_,.nil,r=>by cases r;exact⟨_,.nil⟩
  | _, _, _, .cons h t, r => by
    cases r with
    | cons r1 r2 =>
      obtain⟨as,q1⟩:=Rds.reads I h r1;obtain⟨bs,q2⟩:=RdsAll.reads I t r2;exact⟨_,.cons q1 q2⟩
end
theorem RdsAll.ints {K:PySem.W.Frag} {H:Hp}:∀ns:List Int,RdsAll K H (ns.map V.int) (ns.map PyData.int)
 | []=>.nil
 | n::r=>.cons (.int n) (RdsAll.ints r)
def rEqD (K:PySem.W.Frag) (neg:Bool):R2:=fun x y H Q=>∃dx dy,Rds K H x dx/\Rds K H y dy/\SeqAt.shaped dx=true/\SeqAt.shaped dy=true/\Q (.bl (if neg then !PyData.eqv dx dy else PyData.eqv dx dy)) H
theorem jk3 (hu:X.A.units+64<cLine):OpR X (compareOp .Eq) (rEqD X.K false):=by
 intro pins s σ H x y v u Q I rx ry ⟨dx,dy,hx,hy,sx,sy,q⟩;obtain⟨as,ra⟩:=hx.reads I rx;obtain⟨bs,rb⟩:=hy.reads I ry;exact eq_dataH ra rb sx sy hu ⟨.bl _,H,I,rfl,q⟩
theorem jch (hu:X.A.units+64<cLine):OpR X (compareOp .NotEq) (rEqD X.K true):=by
 intro pins s σ H x y v u Q I rx ry ⟨dx,dy,hx,hy,sx,sy,q⟩;obtain⟨as,ra⟩:=hx.reads I rx;obtain⟨bs,rb⟩:=hy.reads I ry;exact ne_dataH ra rb sx sy hu ⟨.bl _,H,I,rfl,q⟩
theorem jei (hc:X.calm=true):jcQ X (.builtin "all") (fun xs H Q=>∃(a:Addr) (bs:List Bool),xs=[.ref a]/\SqL X.K H a (bs.map V.bl)/\Q (.bl (bs.all id)) H):=by
  intro pins s σ H xs us Q I r h;obtain⟨a,bs,rfl,hq,q⟩:=h;obtain⟨u,rfl,rx⟩:=jeh r;cases rx;obtain⟨its,rv,pl,hz⟩:=I.list hq;have hl:=pl.isList;have hlt:a<s.heap.objs.size:=by obtain⟨_,e,_⟩:=hl;exact Heap.lt_size e
  refine call_all_walk (wpAny_pyIter_list hl ?_);refine⟨_,[s.heap.objs.size,a],[s.heap.objs.size],_,_,_,fun i=>(bs[i]?).getD true,rfl,Walks.list (A:=X.A.in1) (I.ok.hd hc) _ a (xas hlt) its.toArray,⟨⟨_,Heap.get?_push_size _ rfl,rfl,rfl⟩,hl.push _⟩,?_,?_⟩
  . intro i v s' Q' E' hP hQ
    have hP':its[i]?=some v:=by simpa using hP
    have hb:∃b,bs[i]?=some b/\v=Value.bool b:=by
      cases e:bs[i]? with
      | none =>
        have l1:its.length=(bs.map V.bl).length:=rv.length.symm;rw[xaa] at l1;have l2:=xa6.mp e;have l3:=(xai.mp hP').1;omega
      | some b =>
        obtain⟨u,e1,e2⟩:=rv.get (i:=i) (x:=V.bl b) (by rw[xak,e];rfl);rw[e1] at hP';cases hP';exact⟨b,rfl,e2⟩
    obtain⟨b,eb,rfl⟩:=hb;have hQ2:Q' ((bs[i]?).getD true) s':=hQ;rw[eb] at hQ2;exact wpAny_truthy_bool hQ2
  . intro h' tk hk
    have kp:∀b o,s.heap.get? b=some o->h'.get? b=some o:=fun b o e=>hk b o (fun hm=>by
      rcases xaf.mp hm with e1 | hm
      . exact absurd (e1▸Heap.lt_size e) (xaM _)
      . cases hm) (Heap.get?_push_of_some _ e)
    refine⟨.bl _,H,I.kept kp,rfl,?_⟩;have l1:its.length=bs.length:=by rw[<- rv.length,xaa]
    have ea:(List.range its.toArray.size).all (fun i=>(bs[i]?).getD true)=bs.all id:=by
      rw[xad,l1,xbc,xaR,xaR];constructor
      . intro h b hb
        obtain⟨i,hi,e⟩:=List.mem_iff_getElem.mp hb;have z:=h i (xaZ.mpr hi);rw[xae hi,e] at z;exact z
      . intro h i hi
        have hi':=xaZ.mp hi;rw[xae hi'];exact h _ (xbm hi')
    rw[ea];exact q
end
end L2
namespace L2
open PySem PySem.Spec PyProof.Rows
def Keep {α:Type} (Z:Heap->Prop):Sem α->Prop
 | .pure _=>True
 | .raise _=>True
 | .unsupported _=>True
 | .finish _=>True
 | .rule _ k=>Keep Z (k ())
 | .at _ k=>Keep Z (k ())
 | .load _ _ k=>∀o,Keep Z (k o)
 | .update a _ f k=>(∀h,Z h->Z (h.update a f))/\Keep Z (k ())
 | .alloc o k=>(∀h,Z h->Z (h.push o))/\∀a,Keep Z (k a)
 | .loadIfAlive _ k=>∀o,Keep Z (k o)
 | .point _ k=>Keep Z (k ())
 | .register _ _=>True
 | .fresh k=>∀t,Keep Z (k t)
 | .ask k=>∀x,Keep Z (k x)
 | .choose _ _ k=>∀n,Keep Z (k n)
 | .os _ _ k=>∀r,Keep Z (k r)
 | .call ..=>False
 | .handled _ k=>∀x,Keep Z (k x)
 | .newGen _ k=>∀n,Keep Z (k n)
 | .genState _ k=>∀x,Keep Z (k x)
 | .resume ..=>False
 | .yield ..=>True
 | .stack k=>∀l,Keep Z (k l)
 | .fork ..=>True
 | .thread k=>∀n,Keep Z (k n)
 | .await ..=>True
theorem Keep.bind {α β:Type} {Z:Heap->Prop} {t:Sem α} {g:α->Sem β} (h:Keep Z t) (k:∀a,Keep Z (g a)):Keep Z (t >>= g):=by
 show Keep Z (Sem.bind t g);induction t with
 | pure a=>exact k a
 | raise _=>trivial
 | unsupported _=>trivial
 | finish _=>trivial
 | rule _ _ ih=>exact ih () h
 | «at» _ _ ih=>exact ih () h
 | load _ _ _ ih=>exact fun o=>ih o (h o)
 | update _ _ _ _ ih=>exact⟨h.1,ih () h.2⟩
 | alloc _ _ ih=>exact⟨h.1,fun a=>ih a (h.2 a)⟩
 | loadIfAlive _ _ ih=>exact fun o=>ih o (h o)
 | point _ _ ih=>exact ih () h
 | register _ _ _=>trivial
 | fresh _ ih=>exact fun o=>ih o (h o)
 | ask _ ih=>exact fun o=>ih o (h o)
 | choose _ _ _ ih=>exact fun o=>ih o (h o)
 | os _ _ _ ih=>exact fun o=>ih o (h o)
 | call _ _ _ _ _ _=>exact h.elim
 | handled _ _ ih=>exact fun o=>ih o (h o)
 | newGen _ _ ih=>exact fun o=>ih o (h o)
 | genState _ _ ih=>exact fun o=>ih o (h o)
 | resume _ _ _ _ _=>exact h.elim
 | yield _ _ _ _ _=>trivial
 | stack _ ih=>exact fun o=>ih o (h o)
 | fork _ _ _=>trivial
 | thread _ ih=>exact fun o=>ih o (h o)
 | await _ _ _ _ _ _=>trivial
theorem Keep.wp {α:Type} {Z:Heap->Prop} {M:Model} {Γ:PySem.Ctx} {t:Sem α} (h:Keep Z t):∀{Q:α->Pos->Shared->Prop} {E:Value->Pos->Shared->Prop} {p:Pos} {s:Shared},Z s.heap->Sem.wp M Γ t Q E p s ->
  Sem.wp M Γ t (fun a p s'=>Q a p s'/\Z s'.heap) (fun e p s'=>E e p s'/\Z s'.heap) p s:=by
 induction t with
 | pure a=>intro Q E p s z q;rw[Sem.wp] at q |-;exact⟨q,z⟩
 | raise e=>intro Q E p s z q;rw[Sem.wp] at q |-;exact⟨q,z⟩
 | unsupported _=>intro Q E p s z q;rw[Sem.wp] at q;exact q.elim
 | finish _=>intro Q E p s z q;rw[Sem.wp] at q;exact q.elim
 | rule _ _ ih=>intro Q E p s z q;rw[Sem.wp] at q |-;exact ih () h z q
 | «at» _ _ ih=>intro Q E p s z q;rw[Sem.wp] at q |-;exact ih () h z q
 | load _ _ _ ih=>intro Q E p s z q;rw[Sem.wp] at q |-;obtain⟨o,ho,q⟩:=q;exact⟨o,ho,ih o (h o) z q⟩
 | update _ _ _ _ ih=>intro Q E p s z q;rw[Sem.wp] at q |-;exact⟨q.1,ih () h.2 (h.1 _ z) q.2⟩
 | alloc _ _ ih=>intro Q E p s z q;rw[Sem.wp] at q |-;exact ih _ (h.2 _) (h.1 _ z) q
 | loadIfAlive _ _ ih=>intro Q E p s z q;rw[Sem.wp] at q |-;exact ih _ (h _) z q
 | point _ _ ih=>intro Q E p s z q;rw[Sem.wp] at q |-;exact ih () h z q
 | register _ _ _=>intro Q E p s z q;rw[Sem.wp] at q;exact q.elim
 | fresh _ ih=>intro Q E p s z q;rw[Sem.wp] at q |-;exact ih _ (h _) z q
 | ask _ ih=>intro Q E p s z q;rw[Sem.wp] at q |-;exact ih _ (h _) z q
 | choose _ _ _ ih=>intro Q E p s z q;rw[Sem.wp] at q |-;exact⟨q.1,ih _ (h _) z q.2⟩
 | os _ _ _ ih=>intro Q E p s z q;rw[Sem.wp] at q |-;exact ih _ (h _) z q
 | call _ _ _ _ _ _=>exact h.elim
 | handled _ _ ih=>intro Q E p s z q;rw[Sem.wp] at q |-;exact ih _ (h _) z q
 | newGen _ _ ih=>intro Q E p s z q;rw[Sem.wp] at q |-;exact ih _ (h _) z q
 | genState _ _ ih=>intro Q E p s z q;rw[Sem.wp] at q |-;obtain⟨o,ho,q⟩:=q;exact⟨o,ho,ih _ (h _) z q⟩
 | resume _ _ _ _ _=>exact h.elim
 | yield _ _ _ _ _=>intro Q E p s z q;rw[Sem.wp] at q;exact q.elim
 | stack _ ih=>intro Q E p s z q;rw[Sem.wp] at q |-;exact ih _ (h _) z q
 | fork _ _ _=>intro Q E p s z q;rw[Sem.wp] at q;exact q.elim
 | thread _ ih=>intro Q E p s z q;rw[Sem.wp] at q |-;exact ih _ (h _) z q
 | await _ _ _ _ _ _=>intro Q E p s z q;rw[Sem.wp] at q;exact q.elim
theorem Keep.any {α:Type} {Z:Heap->Prop} {M:Model} {A:Around} {t:Sem α} {Q:α->Shared->Prop} {E:Value->Shared->Prop} {s:Shared} (h:Keep Z t) (z:Z s.heap) (q:wpAny M A t Q E s) :
  wpAny M A t (fun a s'=>Q a s'/\Z s'.heap) (fun e s'=>E e s'/\Z s'.heap) s:=fun Γ p hΓ=>h.wp z (q Γ p hΓ)
def DictAt (e dx:Addr) (h:Heap):Prop:=∃o,h.get? e=some o/\o.dict=some dx
theorem DictAt.push {e dx:Addr} {h:Heap} {o:Obj} (z:DictAt e dx h):DictAt e dx (h.push o):=by
 obtain⟨x,h1,h2⟩:=z;exact⟨x,Heap.get?_push_of_some _ h1,h2⟩
theorem DictAt.update {e dx a:Addr} {h:Heap} {f:Obj->Obj} (hd:∀o,(f o).dict=o.dict) (hf:∀o,o.isFreed=false->(f o).isFreed=false) (z:DictAt e dx h):DictAt e dx (h.update a f):=by
 obtain⟨x,h1,h2⟩:=z;by_cases c:a=e
 ·subst c;exact⟨f x,Heap.get?_update_self f h1 (hf x (Heap.get?_some_iff.mp h1).2),(hd x).trans h2⟩
 ·exact⟨x,(Heap.get?_update_other _ _ c).trans h1,h2⟩
theorem jhk (g:Array Value->Array Value) (o:Obj):(Obj.mapFields g o).dict=o.dict:=by
 obtain⟨c,d,dt,sl⟩:=o;cases dt<;>rfl
theorem jhl (g:Array Value->Array Value) (o:Obj) (h:o.isFreed=false):(Obj.mapFields g o).isFreed=false:=by
 obtain⟨c,d,dt,sl⟩:=o;cases dt<;>first | rfl | exact h
section
variable {e dx:Addr}
theorem jfA (v:Value):Keep (DictAt e dx) (fieldsOf v):=by
  unfold fieldsOf;cases v with
  | ref a =>
    refine fun o=>?_;show Keep _ (match o.data with | .fields vs=>_ | _=>_);cases o.data<;>trivial
  | _=>trivial
theorem jcD (v:Value) (i:Nat):Keep (DictAt e dx) (field v i):=by
 refine Keep.bind (jfA v) fun vs=>?_;cases vs[i]?<;>trivial
theorem jbV (v:Value) (i:Nat) (x:Value):Keep (DictAt e dx) (setField v i x):=by
  unfold setField;cases v with
  | ref a =>
    refine fun o=>?_;show Keep _ (match o.data with | .fields vs=>_ | _=>_);cases o.data with
    | fields vs =>
      show Keep _ (if i<vs.size then _ else _);split
      . exact⟨fun h z=>z.update (jhk _) (jhl _),trivial⟩
      . trivial
    | _=>trivial
  | _=>trivial
theorem jfB (v:Value) (f:Option Addr):Keep (DictAt e dx) (setFlight v f):=by
 refine Keep.bind (jcD v 1) fun tb=>?_;split
 ·exact jbV _ _ _
 ·trivial
theorem jej (T:String) (vs:List Value):Keep (DictAt e dx) (newFields T vs):=by
 unfold newFields newObj;have k:Keep (DictAt e dx) (newObjAsIs (.type T) (.fields vs.toArray)):=⟨fun h z=>z.push,fun a=>trivial⟩;show Keep (DictAt e dx) (if vs.toArray.size>sizeLine+2 then _ else newObjAsIs (.type T) (.fields vs.toArray));split
 ·trivial
 ·exact k
theorem jhm (env:Env) (b:Bool) (l:List Env):Keep (DictAt e dx) (keptBack env b l):=by
  cases l with
  | nil =>
    show Keep (DictAt e dx) (if (env.scope.isGenerator||env.scope.isCoroutine)=true then _ else _);split
    . trivial
    . refine Keep.bind (t:=underTheClaimsCaller) ?_ fun c=>trivial
      exact fun l=>trivial
  | cons x r=>trivial
theorem jfC (env:Env) (l:List Env):Keep (DictAt e dx) (behindIsImport env l):=by
 unfold behindIsImport;split
 ·trivial
 ·split
  ·trivial
  ·exact Keep.bind (jcD _ _) fun _=>trivial
theorem jeo:∀l:List Env,Keep (DictAt e dx) (readyFrames l)
  | []=>trivial
  | env :: outer => by
    unfold readyFrames;cases env.frame with
    | none=>trivial
    | some f =>
      refine fun o=>?_;show Keep (DictAt e dx) (if (o.slots.getD 3 none).isSome=true then _ else _);split
      . trivial
      . refine Keep.bind (jfC _ _) fun b=>Keep.bind (jhm _ _ _) fun c=>⟨fun h z=>z.update (fun o=>rfl) (fun o ho=>?_),jeo outer⟩
        obtain⟨c',d',dt,sl⟩:=o;cases dt<;>first | rfl | exact ho
theorem je8 (env:Env):Keep (DictAt e dx) (PySem.frameOf env):=by
 unfold PySem.frameOf;refine Keep.bind (fun l=>trivial) fun l=>Keep.bind ?_ fun x=>?_
 ·unfold frameObject;cases l.dropWhile (·.frame != env.frame) with
  | nil=>trivial
  | cons x r=>exact Keep.bind (jeo _) fun _=>trivial
 ·cases x<;>trivial
theorem jgH (f:Addr) (b:Bool):Keep (DictAt e dx) (entryPlaceOf f b):=by
 refine fun acts=>?_;show Keep _ (match acts.find? _ with | some (_,pos)=>_ | none=>_);split<;>trivial
theorem jhn (v:Value) (env:Env):Keep (DictAt e dx) (noteFrame v env):=by
  unfold noteFrame;cases env.frame with
  | none=>trivial
  | some f =>
    refine Keep.bind (jcD v 1) fun head=>?_;have last:Keep (DictAt e dx) (do setField v 1 (<- EntryCells.newEntry head (<- PySem.frameOf env) .none (rawInt f) .none (<- entryPlaceOf f (head != .none)))) :=
      Keep.bind (je8 env) fun a=>Keep.bind (jgH _ _) fun pl=>Keep.bind (jej _ _) fun b=>jbV _ _ _
    show Keep (DictAt e dx) (if (head != Value.none)=true then _ else _);split
    . refine Keep.bind (jcD _ _) fun x=>?_
      split
      . trivial
      . exact Keep.bind (jbV _ _ _) fun _=>last
    . exact last
theorem je9 (env:Env) (v:Value):Keep (DictAt e dx) (leaving env v):=Keep.bind (jhn v env) fun _=>jfB v none
end
def XOk (P:Program) (w:World):CXT:=fun outer H s E e s'=>∃(ea C:Addr) (a0:Value) (H':Hp) (B:Heap) (pd:Option Addr),e=.ref ea/\Heap.FlyingW B outer ea (.ref C) a0 s'.heap/\s'.os=s.os/\AllBare s'.gens /\
 Un (frs outer) [] H H' s.heap s'.heap/\HOk P w H' B/\(∀b o,s.heap.get? b=some o->H b=none->b∉frs outer->B.get? b=some o)/\(∀b o,s.heap.get? b=some o->b∉frs outer->∃o',B.get? b=some o')/\(∀dx,pd=some dx->DictAt ea dx s'.heap)/\E (.ref C) pd H'
structure Top1 (X:Cx):Prop where
 stk:X.stack=X.env::X.outer
 frm:X.env.frame=some X.env.locals
 ex:X.ex=[]
section
variable {X:Cx} {pins:List (Addr × Obj)} {σ:St} {H:Hp} {s:Shared}
theorem Top1.mem (T:Top1 X) {b:Addr}:b∈frs X.stack↔b=X.env.locals\/b∈X.fs:=by
 rw[T.stk];unfold frs;rw[xa7,T.frm];exact xaf
theorem Inv.hokB (I:Inv X pins σ H s):HOk X.prog X.w H (PySem.W.hideAll s.heap (frs X.stack)):=fun a o e =>
 (I.hok a o e).stay (fun b u hb q=>PySem.W.hideAll_get _ q fun hm=>by
  have z:=I.stkFree b hm;rcases hb with rfl | hb
  ·rw[z] at e;cases e
  ·rw[z] at hb;cases hb) (fun _ q=>q) fun _ _ q=>q
theorem jho {E:XK} {E':Value->Shared->Prop} {h2:Heap} {ea C:Addr} {vs:List Value} (T:Top1 X) (I:Inv X pins σ H s) (hx:Heap.MadeExcOf s.heap h2 ea (.ref C) vs) (q:E (.ref C) none H) :
  wpAny (model X.prog X.w) X.A (leaving X.env (.ref ea)) (fun _ s''=>XOk X.prog X.w X.outer X.H₀ X.s₀ E (.ref ea) s'') E' { s with heap:=h2 }:=by
 have hfr:X.A.frames=some (X.env::X.outer):=by rw[<- T.stk];exact I.ok.frames
 have hst:=I.stack;have hin:∀env∈X.stack,∀b,env.frame=some b->b∈frs X.stack:=fun env he b hb=>xbu.mpr ⟨env,he,hb⟩;have hB:=PySem.W.funFrames_hide hst hin;rw[T.stk] at hB;have out:∀b o,X.s₀.heap.get? b=some o->b∉X.fs->b∉frs X.stack:=fun b o e hb hm=>by
  rcases T.mem.mp hm with z | z
  ·exact absurd (xah (Heap.lt_size e) I.ok.above) (by rw[z];exact xaM _)
  ·exact hb z
 have nx:∀b:Addr,b∉X.ex:=fun b z=>by rw[T.ex] at z;cases z
 have toB:∀b o,s.heap.get? b=some o->b∉frs X.stack->(PySem.W.hideAll s.heap (frs X.stack)).get? b=some o:=fun b o e hb=>PySem.W.hideAll_get _ e hb;refine wpAny_leaves_madeW (base:=PySem.W.hideAll s.heap (frs X.stack)) hfr T.frm (fun b o q=>PySem.W.of_hideAll _ q) (by rw[T.stk];exact hB) hx fun h' t x1 _ _ x4=>?_;have slot:∀b,b∈frs X.stack->∀o,s.heap.get? b=some o->∃sl,h'.get? b=some { o with slots:=sl }:=fun b hb o e=>by
  obtain⟨_,o2,e2,nf⟩:=hst.mem hb;rw[e] at e2;cases e2;exact x4 b o (hx.keeps b o e) nf
 refine⟨ea,C,_,H,_,none,rfl,x1,I.os,I.bare,⟨fun b o e n hb _=>?_,fun b o e n hb _=>?_,fun b o e n _=>I.base.free b o e n (nx b),fun b o e _=>?_,I.base.tups,I.base.frzs,I.base.tbls⟩,I.hokB,fun b o e n hb=>?_,fun b o e hb=>?_,(fun _ z=>nomatch z),q⟩
 ·exact x1.1 b o (toB b o (I.base.keep b o e n hb (nx b)) (out b o e hb))
 ·obtain⟨sl,e1⟩:=I.base.slot b o e n hb (nx b);obtain⟨sl2,e2⟩:=slot b (T.mem.mpr (.inr hb)) _ e1;exact⟨sl2,e2⟩
 ·obtain⟨o',e1⟩:=I.base.there b o e (nx b);by_cases hb:b∈frs X.stack
  ·obtain⟨sl,e2⟩:=slot b hb o' e1;exact⟨_,e2⟩
  ·exact⟨o',x1.1 b o' (toB b o' e1 hb)⟩
 ·exact toB b o (I.base.keep b o e n hb (nx b)) (out b o e hb)
 ·obtain⟨o',e1⟩:=I.base.there b o e (nx b);exact⟨o',toB b o' e1 (out b o e hb)⟩
theorem jiA {E:XK} {E':Value->Shared->Prop} {e:Value} {s':Shared} (T:Top1 X) (I:Inv X pins σ H s) (h:XOk X.prog X.w X.stack H s E e s') :
    wpAny (model X.prog X.w) X.A (leaving X.env e) (fun _ s''=>XOk X.prog X.w X.outer X.H₀ X.s₀ E e s'') E' s':=by
  obtain⟨ea,C,a0,H',B,pd,rfl,fl,os,ba,un,hk,kb,tb,dk,q⟩:=h;have hfr:X.A.frames=some (X.env::X.outer):=by rw[<- T.stk];exact I.ok.frames
  have out:∀b o,X.s₀.heap.get? b=some o->b∉X.fs->b∉frs X.stack:=fun b o e hb hm=>by
    rcases T.mem.mp hm with z | z
    . exact absurd (xah (Heap.lt_size e) I.ok.above) (by rw[z];exact xaM _)
    . exact hb z
  have nx:∀b:Addr,b∉X.ex:=fun b z=>by rw[T.ex] at z;cases z
  have n0:∀b:Addr,b∉([]:List Addr):=fun b z=>nomatch z;have fl':=fl;rw[T.stk] at fl;have main:∀h',Heap.FlyingW B X.outer ea (.ref C) a0 h'->s'.heap.UpToSlots h'->(∀dx,pd=some dx->DictAt ea dx h')->XOk X.prog X.w X.outer X.H₀ X.s₀ E (.ref ea) { s' with heap:=h' }:=?_
  . cases pd with
    | none=>exact wpAny_leaves_onW hfr T.frm fl fun h' x1 x2=>main h' x1 x2 (fun _ z=>nomatch z)
    | some dx =>
      refine wpAny_mono (Keep.any (je9 (e:=ea) (dx:=dx) X.env (.ref ea)) (dk dx rfl) (wpAny_leaves_onW hfr T.frm fl (Q:=fun _ s''=>∃h',s''={ s' with heap:=h' }/\Heap.FlyingW B X.outer ea (.ref C) a0 h'/\s'.heap.UpToSlots h') (E:=E') fun h' x1 x2=>⟨h',rfl,x1,x2⟩)) (fun _ s'' z=>?_) fun _ _ z=>z.1;obtain⟨⟨h',rfl,x1,x2⟩,z⟩:=z;exact main h' x1 x2 (fun dx' e=>by cases e;exact z)
  intro h' x1 x2 dk';have slot:∀b,b∈frs X.stack->∀o,s'.heap.get? b=some o->∃sl,h'.get? b=some { o with slots:=sl }:=fun b hb o e=>by
    obtain⟨_,o2,e2,nf⟩:=fl'.2.2.1.mem hb;rw[e] at e2;cases e2;exact x2 b o e nf
  refine⟨ea,C,a0,H',B,pd,rfl,x1,os.trans I.os,ba,⟨fun b o e n hb _=>?_,fun b o e n hb _=>?_,fun b o e n _=>?_,fun b o e _=>?_,fun b xs z=>un.tups b xs (I.base.tups b xs z),fun b o u z=>un.frzs b o u (I.base.frzs b o u z),fun b ps z=>?_⟩,hk,fun b o e n hb=>?_,fun b o e hb=>?_,dk',q⟩
  . exact x1.1 b o (kb b o (I.base.keep b o e n hb (nx b)) (I.base.free b o e n (nx b)) (out b o e hb))
  . obtain⟨sl,e1⟩:=I.base.slot b o e n hb (nx b)
    obtain⟨sl1,e2⟩:=un.slot b _ e1 (I.base.free b o e n (nx b)) (T.mem.mpr (.inr hb)) (n0 b);obtain⟨sl2,e3⟩:=slot b (T.mem.mpr (.inr hb)) _ e2;exact⟨sl2,e3⟩
  . obtain⟨o',e1⟩:=I.base.there b o e (nx b)
    exact un.free b o' e1 (I.base.free b o e n (nx b)) (n0 b)
  . obtain⟨o',e1⟩:=I.base.there b o e (nx b)
    by_cases hb:b∈frs X.stack
    . obtain⟨o2,e2⟩:=un.there b o' e1 (n0 b)
      obtain⟨sl,e3⟩:=slot b hb o2 e2;exact⟨_,e3⟩
    . obtain⟨o2,e2⟩:=tb b o' e1 hb
      exact⟨o2,x1.1 b o2 e2⟩
  . obtain⟨m1,z1⟩:=I.base.tbls b ps z
    obtain⟨m2,z2⟩:=un.tbls b _ z1;exact⟨m1++m2,by rw[z2,Array.append_assoc]⟩
  . exact kb b o (I.base.keep b o e n hb (nx b)) (I.base.free b o e n (nx b)) (out b o e hb)
  . obtain⟨o',e1⟩:=I.base.there b o e (nx b)
    exact tb b o' e1 (out b o e hb)
theorem jjZ {K:PySem.W.Frag} {h₀:Heap} {mg:Str->Option Value} {x:Str} {C:Addr} {bmB:List Value} {newId:String} (X:K.In h₀) (hm:mg x=some (.ref C)) (q:PySem.W.excIn K C bmB newId=true):OwnCls x C bmB newId mg h₀:=by
 refine⟨hm,?_⟩;unfold PySem.W.excIn at q;split at q
 ·rename_i dd cd sl ho
  split at q
  ·rename_i C' bm k0 k1 k2 k3 n k5 hm hs
   simp only[xaJ,beq_iff_eq,Bool.not_eq_true'] at q;obtain⟨⟨⟨⟨⟨rfl,rfl⟩,hdel⟩,ht⟩,hok⟩,hni⟩:=q;obtain⟨nm,bs,mro,ns,qn,hd,sn,sub,ab,col,del⟩:=cd;dsimp only at hm hdel hok hni;subst hm hdel;have hsl:sl=#[k0,k1,k2,k3,some (.builtin n),k5]:=by
    obtain⟨l⟩:=sl;simp only at hs;rw[hs]
   subst hsl;exact⟨bm,ns,nm,qn,bs,hd,sn,sub,ab,col,dd,k0,k1,k2,k3,k5,_,X _ _ ho,.of_isNs (PySem.W.isNs_of_in X hok),PySem.W.nsMap_none_of_in X hok hni,PySem.W.tail_of_in X ht⟩
  ·cases q
 ·cases q
structure Exc (K:PySem.W.Frag) (C:Addr) (B newId initId:String) (bmB:List Value):Prop where
 at_:PySem.W.excIn K C bmB newId=true
 base:ExcBaseFacts B newId initId bmB
theorem jbt {x:Str} {C:Addr} {B newId initId:String} {bmB:List Value} {e₀:Expr} {jbj:List Expr} {ta:TA} {np cpos pos:Pos} {R:Hp->Prop} (hc:X.calm=true) (hg:Gl X x) (hm:X.mg x=some (.ref C)) (O:Exc X.K C B newId initId bmB)
  (ha:PA X (e₀::jbj) ta) (hR:∀pins σ H s h' ea vs,Inv X pins σ H s->Heap.MadeExcOf s.heap h' ea (.ref C) vs->R H->X.xe (.ref ea) { s with heap:=h' })
  (hdb:(x==("__debug__":Str))=false:=by decide) (he:starEach (e₀::jbj) X.env=(false,eval e₀ X.env)::starEach jbj X.env:=by rfl) (hplain:(backTo cpos (starEach jbj X.env)).any (·.1)=false:=by rfl) :
  PS X (.Raise (some (.Call (.Name x np) (e₀::jbj) [] cpos)) none pos) (fun _ σ H=>ta σ H fun vs H1=>vs.length<=sizeLine/\R H1):=by
 intro pins s σ H D I h;have OC:OwnCls x C bmB newId X.mg X.base:=jjZ I.ok.mod.kin hm O.at_;obtain⟨tl,N,nm,q,bs,hdct,sn,sub,ab,col,dd,k0,k1,k2,k3,k5,mN,hC,hN,hni,TL⟩:=id OC.obj;refine wpAny_Raise_call_subT (C:=C) (nm:=nm) (q:=q) (N:=N) (bs:=bs) (bm:=tl) (hdct:=hdct) (sn:=sn) (sub:=sub) (ab:=ab) (col:=col) (dd:=dd) (k0:=k0) (k1:=k1) (k2:=k2) (k3:=k3) (k5:=k5)
  O.base (mN:=mN) (TL.hasType O.base.hasBase) (I.ok.hd hc) (by rw[he];show (false||(backTo cpos (starEach jbj X.env)).any (·.1))=false;rw[hplain];rfl) hni (jdf I hg hm ⟨rfl,?_⟩ hdb)
 have hA:=ha cpos pins s σ H _ I h;rw[he] at hA |-
 refine Calls.evalArgs_plain (wpAny_mono hA (fun us s2 ⟨vs,H1,I1,r1,hz,hr⟩=>?_) fun _ _ y=>y);have hl:us.length<=sizeLine:=by rw[<- r1.length];exact hz
 exact⟨rfl,hl,I1.bk _ _ hC,hN.keeps I1.bk,TL.keeps I1.bk,fun h' ea hx=>hR pins σ H1 s2 h' ea us I1 hx hr⟩
def XP (X:Cx) (pins:List (Addr × Obj)) (σ:St) (E:XK) (ex:Value) (s':Shared):Prop:=∃H1 s1,Inv X pins σ H1 s1/\XOk X.prog X.w X.stack H1 s1 E ex s'
abbrev TX:=St->Hp->VK->XK->Prop
def PX (X:Cx) (e:Expr) (t:TX):Prop :=
 ∀(pins:List (Addr × Obj)) (s:Shared) (σ:St) (H:Hp) (Q:VK) (E:XK),Inv X pins σ H s->t σ H Q E->wpAny (model X.prog X.w) X.A (eval e X.env) (EP X pins σ Q) (XP X pins σ E) s
abbrev TSX:=Ends->(St->XK)->St->Hp->Prop
def PSX (X:Cx) (st:List Stmt) (t:TSX):Prop :=
 ∀(pins:List (Addr × Obj)) (s:Shared) (σ:St) (H:Hp) (D:Ends) (E:St->XK),Inv X pins σ H s->t D E σ H->wpAny (model X.prog X.w) X.A (execs st X.env) (SP X pins D) (fun ex s'=>∃σ1,XP X pins σ1 (E σ1) ex s') s
theorem jfD {i:Nat} {y:Str} {e:Expr} {t:TX} {py pos:Pos} (hN:X.N.Nodup) (hi:X.N[i]?=some y) (hx:Loc X.env.scope y) (he:PX X e t) (hs:swapsWith e (some (.Name y py)) pos.line X.env=pure false:=by rfl)
  (hf:X.fn y=true\/X.env.scope.names.lookup y=some .local:=by first | exact .inl rfl | exact .inr rfl | assumption) :
  PSX X [.Assign [.Name y py] e pos] (fun D E σ H=>t σ H (fun v H1=>D.nx (σ.set i (some v)) H1) (E σ)):=by
 intro pins s σ H D E I h;refine wpAny_execs_cons (wpAny_Assign_Name (wpAny_mono (he pins s σ H _ (E σ) I h) (fun u s1 ⟨v,H1,I1,r,q⟩=>?_) fun ex s' z=>⟨σ,z⟩) hs);exact jcz I1 hN hi hx r (fun s2 I2=>wpAny_execs_nil ⟨_,H1,I2,q⟩) hf
def Cx.caught (X:Cx) (e:Value):Cx:={ X with A:=X.A.mark (some e),calm:=false,xe:=fun _ _=>False }
theorem Inv.caught (I:Inv X pins σ H s) (e:Value) (hfr:(X.A.mark (some e)).frames=X.A.frames:=by rfl):Inv (X.caught e) pins σ H s :=
 ⟨⟨I.ok.mod,I.ok.kind,I.ok.glob,I.ok.blt,I.ok.above,I.ok.inj,I.ok.has,I.ok.cab,(fun z=>nomatch z),hfr.trans I.ok.frames,I.ok.stk,I.ok.exf,I.ok.bs,I.ok.bsz,I.ok.noex,I.ok.exfs,I.ok.funs,I.ok.frf⟩,I.os,I.bare,I.base,I.loc,I.cell,I.free,I.freeC,I.pin,I.hok,I.len⟩
theorem Inv.uncaught {e:Value} (ok:X.Ok) (I:Inv (X.caught e) pins σ H s):Inv X pins σ H s:=⟨ok,I.os,I.bare,I.base,I.loc,I.cell,I.free,I.freeC,I.pin,I.hok,I.len⟩
theorem SP.uncaught {e:Value} {D:Ends} {f:Flow} {s':Shared} (ok:X.Ok) (h:SP (X.caught e) pins D f s'):SP X pins D f s':=by
 cases f with
 | next=>obtain⟨a,b,I,q⟩:=h;exact⟨a,b,I.uncaught ok,q⟩
 | brk=>obtain⟨a,b,I,q⟩:=h;exact⟨a,b,I.uncaught ok,q⟩
 | cont=>obtain⟨a,b,I,q⟩:=h;exact⟨a,b,I.uncaught ok,q⟩
 | ret u=>obtain⟨v,a,b,I,r,q⟩:=h;exact⟨v,a,b,I.uncaught ok,r,q⟩
theorem Inv.landed {s':Shared} {H':Hp} {B h5:Heap} (T:Top1 X) (I:Inv X pins σ H s) (os:s'.os=s.os) (ba:AllBare s'.gens) (un:Un (frs X.stack) [] H H' s.heap s'.heap) (hk:HOk X.prog X.w H' B)
  (kb:∀b o,s.heap.get? b=some o->H b=none->b∉frs X.stack->B.get? b=some o) (tb:∀b o,s.heap.get? b=some o->b∉frs X.stack->∃o',B.get? b=some o')
  (st:B.StaysIn h5) (sm:s'.heap.UpToSlots h5) (ff:s'.heap.FunFrames B X.stack):Inv X pins σ H' { s' with heap:=h5 }:=by
 have n0:∀b:Addr,b∉([]:List Addr):=fun b z=>nomatch z;have slot:∀b,b∈frs X.stack->∀o,s'.heap.get? b=some o->∃sl,h5.get? b=some { o with slots:=sl }:=fun b hb o e=>by
  obtain⟨_,o2,e2,nf⟩:=ff.mem hb;rw[e] at e2;cases e2;exact sm b o e nf
 refine I.call' (s':={ s' with heap:=h5 }) (ch:=[]) os ⟨fun b o e n hb _=>st b o (kb b o e n hb),fun b o e n hb _=>?_,fun b o e n _=>un.free b o e n (n0 b),fun b o e _=>?_,un.tups,un.frzs,un.tbls⟩ (hk.kept st) ba fun b hb=>nomatch hb
 ·obtain⟨sl,e1⟩:=un.slot b o e n hb (n0 b);obtain⟨sl2,e2⟩:=slot b hb _ e1;exact⟨sl2,e2⟩
 ·by_cases hb:b∈frs X.stack
  ·obtain⟨o1,e1⟩:=un.there b o e (n0 b);obtain⟨sl,e2⟩:=slot b hb o1 e1;exact⟨_,e2⟩
  ·obtain⟨o1,e1⟩:=tb b o e hb;exact⟨o1,st b o1 e1⟩
end
section
variable {P:Program} {w:World} {K:PySem.W.Frag} {mg:Str->Option Value} {base:Heap}
abbrev cxX (P:Program) (w:World) (K:PySem.W.Frag) (mg:Str->Option Value) (base:Heap) (N:List Str) (qual:Str) (scope:Scope) (f:Addr) (cd:Value) (A:Around) (outer:List Env) (s:Shared) (H:Hp) (E:XK):Cx:=jfu (XOk P w) P w K mg base N qual scope f cd A outer s H E
theorem jfE {N:List Str} {qual:Str} {scope:Scope} {f:Addr} {cd:Value} {A:Around} {outer:List Env} {s:Shared} {H:Hp} {E:XK} {CX:CXT}:Top1 (jfu CX P w K mg base N qual scope f cd A outer s H E):=⟨rfl,rfl,rfl⟩
theorem jj0 {X:Cx} (T:Top1 X):Top1 X.nox:=⟨T.stk,T.frm,T.ex⟩
theorem jk4 {N:List Str} {qual:Str} {scope:Scope} {f:Addr} {cd:Value} {A:Around} {outer:List Env} {s:Shared} {H:Hp} {E:XK}:jb8 (XOk P w) (cxX P w K mg base N qual scope f cd A outer s H E) E :=
 fun pins σ H1 s1 e s' I h=>jiA (E':=fun e' s''=>XOk P w outer H s E e' s'') jfE I h
theorem jbW {N:List Str} {qual:Str} {scope:Scope} {f C:Addr} {cd:Value} {A:Around} {outer:List Env} {s:Shared} {H:Hp} {E:XK} :
    ∀ (pins : List (Addr × Obj)) (σ : St) (H1 : Hp) (s1 : Shared) (h' : Heap) (ea : Addr) (vs : List Value), Inv (cxX P w K mg base N qual scope f cd A outer s H E) pins σ H1 s1 -> Heap.MadeExcOf s1.heap h' ea (.ref C) vs -> E (.ref C) none H1 ->
      (cxX P w K mg base N qual scope f cd A outer s H E).xe (.ref ea) { s1 with heap:=h' } :=
  fun pins σ H1 s1 h' ea vs I hx q=>jho (E':=fun e' s''=>XOk P w outer H s E e' s'') jfE I hx q
structure FunD (K:PySem.W.Frag) (x qual:Str) (st:Stmt) (f:Addr) (fd:FuncData) (dV:Value):Prop where
 ex:∃(oc:Value) (od:Option Addr) (kV doc pm:Value) (an:Option Addr) (cdv ct:Value) (osl:Array (Option Value)),
  fd=PySem.W.fnOf x qual (jby st) (jaX st) (jag st) dV kV doc pm an cdv ct/\K.lookup f=some ⟨oc,od,.func fd,osl⟩/\PySem.W.codeIn K cdv qual=true
 kp:PySem.W.keepIn K (.ref f)=true
theorem FunD.okX {x qual:Str} {st:Stmt} {f:Addr} {fd:FuncData} {dV:Value} {N ps:List Str} {k:Nat} {sp:Sp} (F:FunD K x qual st f fd dV) (S:FnScope N ps (jag st)) (len:∀vs H Q E,sp vs H Q E->vs.length=ps.length)
  (hbody:∀(cdv:Value) (A:Around) (outer:List Env) (s:Shared) (H:Hp) (vs:List V) (Q:VK) (E:XK),Room k (A.deeper (envOfC qual (jag st) s.heap.objs.size f cdv))->sp vs H Q E ->
   ∃t,PSs (cxX P w K mg base N qual (jag st) f cdv A outer s H E) (jaX st) t/\t { nx:=fun _ H'=>Q .non H',rt:=Q } (start N vs) H):FnOk P w K mg base (XOk P w) (k+1) f fd ps sp:=by
 obtain⟨oc,od,kV,doc,pm,an,cdv,ct,osl,rfl,lk,hcd⟩:=F.ex;exact jkY lk hcd S len fun A outer s H vs Q E hr hsp=>hbody cdv A outer s H vs Q E hr hsp
theorem FunD.ok {x qual:Str} {st:Stmt} {f:Addr} {fd:FuncData} {dV:Value} {N ps:List Str} {k:Nat} {sp:Sp} (F:FunD K x qual st f fd dV) (S:FnScope N ps (jag st)) (len:∀vs H Q E,sp vs H Q E->vs.length=ps.length)
  (hbody:∀(cdv:Value) (A:Around) (outer:List Env) (s:Shared) (H:Hp) (vs:List V) (Q:VK) (E:XK),Room k (A.deeper (envOfC qual (jag st) s.heap.objs.size f cdv))->sp vs H Q E ->
   ∃t,PSs (jfu CX0 P w K mg base N qual (jag st) f cdv A outer s H E).nox (jaX st) t/\t { nx:=fun _ H'=>Q .non H',rt:=Q } (start N vs) H):FnOk P w K mg base CX0 (k+1) f fd ps sp:=by
 obtain⟨oc,od,kV,doc,pm,an,cdv,ct,osl,rfl,lk,hcd⟩:=F.ex;refine jkY lk hcd S len fun A outer s H vs Q E hr hsp=>?_;obtain⟨t,h,q⟩:=hbody cdv A outer s H vs Q E hr hsp;exact⟨t,h.nox,q⟩
theorem jfF {x qual:Str} {st:Stmt} {f:Addr} {oc dV:Value} {od an:Option Addr} {osl:Array (Option Value)} {kV doc pm cdv ct:Value} (l:K.lookup f=some ⟨oc,od,.func (PySem.W.fnOf x qual (jby st) (jaX st) (jag st) dV kV doc pm an cdv ct),osl⟩)
  (c:PySem.W.codeIn K cdv qual=true) (k:PySem.W.keepIn K (.ref f)=true):FunD K x qual st f (PySem.W.fnOf x qual (jby st) (jaX st) (jag st) dV kV doc pm an cdv ct) dV:=⟨⟨oc,od,kV,doc,pm,an,cdv,ct,osl,rfl,l,c⟩,k⟩
end
def At (K:PySem.W.Frag) (mg:Str->Option Value) (x:Str) (st:Stmt) (ps:List Str) (dvs:List V):Prop :=
 ∃f fd dV ds,FunD K x x st f fd dV/\mg x=some (.ref f)/\Binds K fd ps ds/\Vals dvs ds
def jaw (P:Program) (w:World) (K:PySem.W.Frag) (mg:Str->Option Value) (base:Heap) (CX:CXT) (k:Nat) (x:Str) (ps:List Str) (dvs:List V) (sp:Sp):Prop :=
 ∃f fd ds,FnOk P w K mg base CX k f fd ps sp/\mg x=some (.ref f)/\PySem.W.keepIn K (.ref f)=true/\Binds K fd ps ds/\Vals dvs ds
section
variable {P:Program} {w:World} {K:PySem.W.Frag} {mg:Str->Option Value} {base:Heap}
theorem At.ok {x:Str} {st:Stmt} {N ps:List Str} {dvs:List V} {k:Nat} {sp:Sp} (F:At K mg x st ps dvs) (S:FnScope N ps (jag st)) (len:∀vs H Q E,sp vs H Q E->vs.length=ps.length)
  (hbody:∀(f:Addr) (cdv:Value) (A:Around) (outer:List Env) (s:Shared) (H:Hp) (vs:List V) (Q:VK) (E:XK),Room k (A.deeper (envOfC x (jag st) s.heap.objs.size f cdv))->sp vs H Q E ->
   ∃t,PSs (jfu CX0 P w K mg base N x (jag st) f cdv A outer s H E).nox (jaX st) t/\t { nx:=fun _ H'=>Q .non H',rt:=Q } (start N vs) H):jaw P w K mg base CX0 (k+1) x ps dvs sp:=by
 obtain⟨f,fd,dV,ds,F1,hm,hb,hd⟩:=F;exact⟨f,fd,ds,F1.ok S len (hbody f),hm,F1.kp,hb,hd⟩
theorem At.okX {x:Str} {st:Stmt} {N ps:List Str} {dvs:List V} {k:Nat} {sp:Sp} (F:At K mg x st ps dvs) (S:FnScope N ps (jag st)) (len:∀vs H Q E,sp vs H Q E->vs.length=ps.length)
  (hbody:∀(f:Addr) (cdv:Value) (A:Around) (outer:List Env) (s:Shared) (H:Hp) (vs:List V) (Q:VK) (E:XK),Room k (A.deeper (envOfC x (jag st) s.heap.objs.size f cdv))->sp vs H Q E ->
   ∃t,PSs (cxX P w K mg base N x (jag st) f cdv A outer s H E) (jaX st) t/\t { nx:=fun _ H'=>Q .non H',rt:=Q } (start N vs) H):jaw P w K mg base (XOk P w) (k+1) x ps dvs sp:=by
 obtain⟨f,fd,dV,ds,F1,hm,hb,hd⟩:=F;exact⟨f,fd,ds,F1.okX S len (hbody f),hm,F1.kp,hb,hd⟩
end
section
variable {X:Cx} {CX:CXT} {k:Nat} {ps:List Str} {sp:Sp} {dvs:List V} {E:XK} {x:Str} {p pos:Pos} {e:Expr} {es:List Expr} {t:TA}
theorem jai (D:jaw X.prog X.w X.K X.mg X.base CX k x ps dvs sp) (hr:Room k X.A) (hg:Gl X x) (hx:jb8 CX X E) (ha:PA X (e::es) t) (hdb:(x==("__debug__":Str))=false:=by decide)
  (he:starEach (e::es) X.env=(false,eval e X.env)::starEach es X.env:=by rfl) (hpl:(backTo pos (starEach es X.env)).any (·.1)=false:=by rfl):PE X (.Call (.Name x p) (e::es) [] pos) (jfx sp dvs E t):=by
 obtain⟨f,fd,ds,F,hm,hk,hb,hd⟩:=D;exact jjS F hr hg hm hk hb hd hx ha hdb he hpl
theorem jj1:MtR X "int.bit_length" (fun x xs H Q=>∃i,x=.int i/\xs=[]/\Q (.int (Builtin.Int.intBits i:Nat)) H):=by
 intro pins s σ H x xs v us Q I rx rv h;obtain⟨i,rfl,rfl,q⟩:=h;obtain⟨t,rfl⟩:=rx;cases rv;refine wpAny_call (codeAny_call_builtin F.slot_int_bit_length.plain F.entry_int_bit_length (F.slot_int_bit_length.check _ _ _ _ _ _ _ _ (typeIs_int s i t) (F.args_int_bit_length_1 _) (AutoIntG2.int_bit_length_int_0 i t _ _ _ (wants _ _) s ?_)));exact⟨.int _,H,I.tok _,⟨_,rfl⟩,q⟩
end
theorem jfG {k:Nat} {A:Around} (hr:Room k A):A.units+64<cLine:=hr.units
theorem Same.tup {K:PySem.W.Frag} {H H':Hp} {a:Addr} {xs:List V} (e:Same H H') (h:SqT K H a xs):SqT K H' a xs:=by
 rcases h with (h | ⟨o,h⟩) | h
 ·exact .inl (.inl (e _ _ h))
 ·exact .inl (.inr ⟨o,e _ _ h⟩)
 ·exact .inr h
theorem Same.new {H:Hp} {p:Addr} (h:H p=none) (o:HO):Same H (upd H p o):=fun b u q=>by rw[jat (jaD q h)];exact q
theorem at_mk {K:PySem.W.Frag} {h:Heap} {mg:Str->Option Value} {x:Str} {st:Stmt} {ps:List Str} {f:Addr} {oc kV doc pm cdv ct:Value} {od an:Option Addr} {osl:Array (Option Value)} (X:K.In h) (G:h.Ns mainGlobals mg)
  (hb:∀(kV doc pm:Value) (an:Option Addr) (cdv ct:Value) (us:List Value),us.length=ps.length->bindArgs (PySem.W.fnOf x x (jby st) (jaX st) (jag st) .none kV doc pm an cdv ct) ⟨us,[]⟩=pure (ps.zip us))
  (a:PySem.W.nsIn K mainGlobals x=some (some (.ref f))) (l:K.lookup f=some ⟨oc,od,.func (PySem.W.fnOf x x (jby st) (jaX st) (jag st) .none kV doc pm an cdv ct),osl⟩) (c:PySem.W.codeIn K cdv x=true) (k:PySem.W.keepIn K (.ref f)=true) :
  At K mg x st ps []:=⟨f,_,.none,[],jfF l c k,PySem.W.mg_of X G a,.all (hb kV doc pm an cdv ct),.nil⟩
section
variable {X:Cx} {st:Stmt} {jbj:List Stmt} {t u:TS}
def Rest (M:St->Hp->Prop) (u:TS) (D:Ends):Prop:=∀σ' H',M σ' H'->u D σ' H'
def jk5 (M:St->Hp->Prop) (t u:TS):TS:=fun D σ H=>t { D with nx:=M } σ H/\Rest M u D
theorem jaV (M:St->Hp->Prop) (h1:PS X st t) (h2:PSs X jbj u):PSs X (st::jbj) (jk5 M t u):=by
  intro pins s σ H D I h;refine wpAny_execs_cons (thn (h1 pins s σ H { D with nx:=M } I h.1) fun f s1 q=>?_);cases f with
  | next =>
    obtain⟨σ',H',I',q⟩:=q;exact h2 pins s1 σ' H' D I' (h.2 σ' H' q)
  | ret v=>exact q
  | brk=>exact q
  | cont=>exact q
end
def Bd (n:Nat) (i:Int):Prop:=i.natAbs<2^n
theorem Bd.mul {n m:Nat} {i j:Int} (hi:Bd n i) (hj:Bd m j):Bd (n+m) (i*j):=by
 unfold Bd at *
 rw[xbw,Nat.pow_add];exact Nat.mul_lt_mul_of_lt_of_le hi (xaF hj) (Nat.two_pow_pos m)
theorem Bd.mono {n m:Nat} {i:Int} (hi:Bd n i) (h:n<=m:=by decide):Bd m i:=xah hi (xbp (by decide) h)
theorem Bd.add {n:Nat} {i j:Int} (hi:Bd n i) (hj:Bd n j):Bd (n+1) (i+j):=by
 unfold Bd at *
 rw[Nat.pow_succ];have:=Int.natAbs_add_le i j;omega
theorem Bd.sub {n:Nat} {i j:Int} (hi:Bd n i) (hj:Bd n j):Bd (n+1) (i-j):=by
 unfold Bd at *
 rw[Nat.pow_succ];have:=Int.natAbs_sub_le i j;omega
theorem Bd.neg {n:Nat} {i:Int} (hi:Bd n i):Bd n (-i):=by unfold Bd at *;rw[Int.natAbs_neg];exact hi
theorem Bd.fit {n:Nat} {i:Int} (hi:Bd n i) (h:n<=8000:=by decide):Fit i:=xah hi (xbp (by decide) h)
theorem Bd.of {i:Int} (h1:-1606938044258990275541962092341162602522202993782792835301376<i) (h2:i<1606938044258990275541962092341162602522202993782792835301376):Bd 200 i:=by
 unfold Bd;have e:(2^200:Nat)=1606938044258990275541962092341162602522202993782792835301376:=by decide
 rw[e];omega
theorem Fit.o {i:Int} (h1:-1606938044258990275541962092341162602522202993782792835301376<i) (h2:i<1606938044258990275541962092341162602522202993782792835301376):Fit i:=(Bd.of h1 h2).fit
def gk {α:Type} (n m:Nat) (us ws:List α):List α:=if us.length=n/\ws.length=m then us++ws else []
def AtK (K:PySem.W.Frag) (mg:Str->Option Value) (x:Str) (st:Stmt) (ps ks:List Str) (n m:Nat):Prop :=
 ∃f fd dV,FunD K x x st f fd dV/\mg x=some (.ref f)/\KBinds K fd ps ks (gk n m) (gk n m)
def jk6 (P:Program) (w:World) (K:PySem.W.Frag) (mg:Str->Option Value) (base:Heap) (CX:CXT) (k:Nat) (x:Str) (ps ks:List Str) (n m:Nat) (sp:Sp):Prop :=
 ∃f fd,FnOk P w K mg base CX k f fd ps sp/\mg x=some (.ref f)/\PySem.W.keepIn K (.ref f)=true/\KBinds K fd ps ks (gk n m) (gk n m)
section
variable {P:Program} {w:World} {K:PySem.W.Frag} {mg:Str->Option Value} {base:Heap}
theorem AtK.okX {x:Str} {st:Stmt} {N ps ks:List Str} {n m k:Nat} {sp:Sp} (F:AtK K mg x st ps ks n m) (S:FnScope N ps (jag st)) (len:∀vs H Q E,sp vs H Q E->vs.length=ps.length)
  (hbody:∀(f:Addr) (cdv:Value) (A:Around) (outer:List Env) (s:Shared) (H:Hp) (vs:List V) (Q:VK) (E:XK),Room k (A.deeper (envOfC x (jag st) s.heap.objs.size f cdv))->sp vs H Q E ->
   ∃t,PSs (cxX P w K mg base N x (jag st) f cdv A outer s H E) (jaX st) t/\t { nx:=fun _ H'=>Q .non H',rt:=Q } (start N vs) H):jk6 P w K mg base (XOk P w) (k+1) x ps ks n m sp:=by
 obtain⟨f,fd,dV,F1,hm,hb⟩:=F;exact⟨f,fd,F1.okX S len (hbody f),hm,F1.kp,hb⟩
end
theorem jj2 {X:Cx} {K:PySem.W.Frag} (h:X.K=K):IxR X (rIxT K):=h▸jaC
theorem jay {X:Cx} {K:PySem.W.Frag} (h:X.K=K):IxR X (jjW K):=h▸jan
end L2
namespace L2
open PySem
theorem ixT {K:PySem.W.Frag} {H:Hp} {r:Addr} {xs:List V} {i:Int} {v:V} {Q:VK} (k:SqT K H r xs) (e:atI xs i=some v) (q:Q v H):rIxT K (.ref r) (.int i) H Q:=⟨r,xs,i,v,rfl,rfl,k,e,q⟩
theorem ixL {K:PySem.W.Frag} {H:Hp} {r:Addr} {xs:List V} {i:Int} {v:V} {Q:VK} (k:SqL K H r xs) (e:atI xs i=some v) (q:Q v H):jjW K (.ref r) (.int i) H Q:=⟨r,xs,i,v,rfl,rfl,k,e,q⟩
def jkG (J:It) (g:TG) (tb:TS) (D:Ends) (σ:St) (H1:Hp):Prop:=∃W:Nat->Nat->St->Hp->Prop,(∃m,W 0 m σ H1)/\∀i m σ H,W i m σ H ->
 (J.stop i H/\D.nx σ H)\/(J.go i H/\∃N:St->Hp->Prop,(∀σ' H',N σ' H'->∃m',m'<m/\W (i+1) m' σ' H')/\∀x H',J.yld i H x H'->g x σ H' fun σ2 H2=>tb { D with nx:=N,ct:=N,bk:=D.nx } σ2 H2)
section
variable {K:PySem.W.Frag} {ta:TA} {tl:TE} {g:TG} {tb:TS} {D:Ends} {σ:St} {H:Hp} {ix:List Nat} {tt:TT} {te:TE} {Q:VK}
theorem jhp:jjK (jjI ta) g tb D σ H=ta σ H fun vs H1=>∃j:Int,vs=[.int j]/\-(2^62)<=j/\j<2^62/\jkG (Itr 0 j.toNat) g tb D σ H1:=rfl
theorem jhq:jjK (jjJ ta) g tb D σ H=ta σ H fun vs H1=>∃i j:Int,vs=[.int i,.int j]/\(-(2^62)<=i/\i<2^62/\-(2^62)<=j/\j<2^62)/\jkG (Itr i (j-i).toNat) g tb D σ H1:=rfl
theorem jjc:jjK (jil K tl) g tb D σ H=tl σ H fun x H1=>∃a,x=.ref a/\(∃xs,SqL K H1 a xs)/\jkG (Itl K a) g tb D σ H1:=rfl
theorem jjd:jjK (iTup K tl) g tb D σ H=tl σ H fun x H1=>∃a,x=.ref a/\(∃xs,SqT K H1 a xs)/\jkG (Itt K a) g tb D σ H1:=rfl
theorem jf5:jfy (jjI ta) ix g tt te σ H Q=ta σ H fun vs H1=>∃j:Int,vs=[.int j]/\-(2^62)<=j/\j<2^62/\∀acc,H1 acc=none->CompGo (Itr 0 j.toNat) (jaL σ ix) g tt te acc (fun H'=>Q (.ref acc) H') H1:=rfl
theorem jf6:jfy (jjJ ta) ix g tt te σ H Q=ta σ H fun vs H1=>∃i j:Int,vs=[.int i,.int j]/\(-(2^62)<=i/\i<2^62/\-(2^62)<=j/\j<2^62)/\∀acc,H1 acc=none->CompGo (Itr i (j-i).toNat) (jaL σ ix) g tt te acc (fun H'=>Q (.ref acc) H') H1:=rfl
theorem jhr:jfy (jil K tl) ix g tt te σ H Q=tl σ H fun x H1=>∃a,x=.ref a/\(∃xs,SqL K H1 a xs)/\∀acc,H1 acc=none->CompGo (Itl K a) (jaL σ ix) g tt te acc (fun H'=>Q (.ref acc) H') H1:=rfl
theorem jhs:jfy (iTup K tl) ix g tt te σ H Q=tl σ H fun x H1=>∃a,x=.ref a/\(∃xs,SqT K H1 a xs)/\∀acc,H1 acc=none->CompGo (Itt K a) (jaL σ ix) g tt te acc (fun H'=>Q (.ref acc) H') H1:=rfl
theorem FoR.lst {P:Prop} {a:Addr} {xs:List V} (k:SqL K H a xs) (h:P):(∃xs,SqL K H a xs)/\P:=⟨⟨xs,k⟩,h⟩
theorem FoR.tup {P:Prop} {a:Addr} {xs:List V} (k:SqT K H a xs) (h:P):(∃xs,SqT K H a xs)/\P:=⟨⟨xs,k⟩,h⟩
theorem FoR.len {P:List V->Prop} {a:Addr} {xs:List V} (k:SqL K H a xs) (h:P xs):∃x,(SqL K H a x\/SqT K H a x)/\P x:=⟨xs,.inl k,h⟩
theorem FoR.lenT {P:List V->Prop} {a:Addr} {xs:List V} (k:SqT K H a xs) (h:P xs):∃x,(SqL K H a x\/SqT K H a x)/\P x:=⟨xs,.inr k,h⟩
end
end L2
namespace L2
open PySem PySem.Spec PyProof.Rows
theorem Same.keepN {H H':Hp} {p:Addr} (h:Same H H') (n:H p=none) (o:HO):Same H (upd H' p o):=fun b u q=>by rw[jat (jaD q n)];exact h b u q
theorem Same.noneN {H H':Hp} {p:Addr} (h:Same H H') (n:H' p=none):H p=none:=by
  cases e:H p with
  | none=>rfl
  | some o =>
    have z:=h _ _ e;rw[n] at z;cases z
theorem jaP {n:Nat} (h:n<1000):n<sizeLine:=xah h (by decide)
section
variable {ρ:St} {te:TE} {tt:TT} {acc:Addr} {Z:Hp->Prop} {H1:Hp}
theorem jk7 {lo:Int} {n:Nat} (f:Nat->V) (hn:n<1000) (hacc:H1 acc=none)
  (hs:∀(i:Nat) (H3:Hp) (R:V->Hp->Prop),i<n->Same H1 H3->(∀H4,Same H3 H4->R (f i) H4)->te (some (.int (lo+i))::ρ) H3 R)
  (hd:∀H',Same H1 H'->H' acc=some (.lst ((List.range n).map f))->Z H'):CompGo (Itr lo n) ρ (jbL 0) jcg te acc Z H1:=by
 refine jdm (fun i xs H=>Same H1 H/\H acc=some (.lst xs)/\xs=(List.range i).map f) ⟨Same.new hacc _,upd_same,rfl⟩ ?_ ?_
 ·rintro i xs H hi ⟨g1,g2,rfl⟩;refine hs i H _ hi g1 fun H4 s4=>⟨s4 _ _ g2,jaP ?_,Same.keepN (g1.trans s4) hacc _,upd_same,?_⟩
  ·rw[xaa,xbi];omega
  ·rw[xbe,xaj];rfl
 ·rintro xs H ⟨g1,g2,rfl⟩;exact hd H g1 g2
theorem jj3 {lo:Int} {n:Nat} (f:Nat->V) (c:Nat->Bool) (hn:n<1000) (hacc:H1 acc=none)
  (ht:∀(i:Nat) (H3:Hp) (R:Bool->Hp->Prop),i<n->Same H1 H3->(∀H4,Same H3 H4->R (c i) H4)->tt (some (.int (lo+i))::ρ) H3 R)
  (hs:∀(i:Nat) (H3:Hp) (R:V->Hp->Prop),i<n->c i=true->Same H1 H3->(∀H4,Same H3 H4->R (f i) H4)->te (some (.int (lo+i))::ρ) H3 R)
  (hd:∀H',Same H1 H'->H' acc=some (.lst (((List.range n).filter c).map f))->Z H'):CompGo (Itr lo n) ρ (jbL 0) tt te acc Z H1:=by
 refine⟨fun i m xs H=>(Same H1 H/\H acc=some (.lst xs)/\xs=((List.range i).filter c).map f)/\i<=n/\m=n-i,⟨n,⟨Same.new hacc _,upd_same,rfl⟩,xaN _,rfl⟩,?_⟩;rintro i m xs H ⟨⟨g1,g2,rfl⟩,hi,rfl⟩;have hl:(((List.range i).filter c).map f).length<sizeLine:=jaP (by
  rw[xaa];have:=List.length_filter_le c (List.range i);rw[xbi] at this;omega)
 by_cases hlt:i<n
 ·refine .inr ⟨hlt,(fun y H4=>y=f i/\c i=true/\Same H1 H4/\H4 acc=some (.lst (((List.range i).filter c).map f))),fun H3=>c i=false/\Same H1 H3/\H3 acc=some (.lst (((List.range i).filter c).map f)),?_,?_,?_⟩
  ·rintro y H4 ⟨rfl,ci,s4,a4⟩;refine⟨a4,hl,n-(i+1),by omega,⟨Same.keepN s4 hacc _,upd_same,?_⟩,hlt,rfl⟩;rw[xbe,List.filter_append,xaj,List.filter_cons,if_pos ci];rfl
  ·rintro H3 ⟨ci,s3,a3⟩;refine⟨n-(i+1),by omega,⟨s3,a3,?_⟩,hlt,rfl⟩;rw[xbe,List.filter_append,xaj,List.filter_cons,if_neg (by rw[ci];decide)];simp
  ·rintro v0 x H' ⟨rfl,rfl⟩;refine⟨⟨_,rfl⟩,ht i H' _ hlt g1 fun H4 s4=>?_⟩;cases ci:c i with
   | true=>exact if_pos rfl▸hs i H4 _ hlt ci (g1.trans s4) fun H5 s5=>⟨rfl,rfl,g1.trans (s4.trans s5),s5 _ _ (s4 _ _ g2)⟩
   | false=>exact⟨rfl,g1.trans s4,s4 _ _ g2⟩
 ·have:i=n:=by omega
  subst this;exact .inl ⟨xac _,hd H g1 g2⟩
theorem compT {K:PySem.W.Frag} {a:Addr} {zs:List V} (f:V->V) (hn:zs.length<1000) (hacc:H1 acc=none) (hz:SqT K H1 a zs)
  (hs:∀(z:V) (H3:Hp) (R:V->Hp->Prop),z∈zs->Same H1 H3->(∀H4,Same H3 H4->R (f z) H4)->te (some z::ρ) H3 R)
  (hd:∀H',Same H1 H'->H' acc=some (.lst (zs.map f))->Z H'):CompGo (Itt K a) ρ (jbL 0) jcg te acc Z H1:=by
 refine jf4 (zs:=zs) (fun i xs H=>Same H1 H/\H acc=some (.lst xs)/\xs=(zs.take i).map f) ⟨Same.new hacc _,upd_same,rfl⟩ (fun i xs H _ h=>h.1.tup hz) ?_ ?_
 ·rintro i z xs H hi ⟨g1,g2,rfl⟩;refine hs z H _ (xay hi) g1 fun H4 s4=>⟨s4 _ _ g2,jaP ?_,Same.keepN (g1.trans s4) hacc _,upd_same,?_⟩
  ·rw[xaa,xag];omega
  ·rw[xa4,hi,xaj];rfl
 ·rintro xs H ⟨g1,g2,rfl⟩;rw[xaX] at g2;exact hd H g1 g2
end
section
variable {K:PySem.W.Frag} {H:Hp} {a b:Addr} {Q:VK}
theorem FoR.app {X:Prop} {L:Addr} {ps:List V} {x:V} {R:VK} (h:H L=some (.lst ps)) (hl:ps.length<sizeLine) (q:R .non (upd H L (.lst (ps++[x])))):((∃xs,SqL K H L xs)\/X)/\jhg (.ref L) [x] H R :=
 ⟨.inl ⟨_,SqL.of h⟩,L,ps,x,rfl,rfl,h,hl,q⟩
end
theorem FoR.tupOf {K:PySem.W.Frag} {H:Hp} {p:Addr} {ys:List V} {X:Prop} {R:Addr->Hp->Prop} (k:SqL K H p ys) (h:∀t H',Same H H'->H' t=some (.tup ys)->R t H'):∃ys,(SqL K H p ys/\∀l,H l=none->R l (upd H l (.tup ys)))\/(SqT K H p ys/\R p H) :=
 ⟨ys,.inl ⟨k,fun l hl=>h l _ (Same.new hl _) upd_same⟩⟩
theorem jaY {es:List Expr} {k:Nat} {jbj:List Expr} {pos:Pos} {env:Env}:starEach (.Tuple es k pos::jbj) env=(false,eval (.Tuple es k pos) env)::starEach jbj env:=by
 rw[starEach];intro e p h;cases h
theorem jaj {c:Const} {k:Nat} {jbj:List Expr} {pos:Pos} {env:Env}:starEach (.Constant c k pos::jbj) env=(false,eval (.Constant c k pos) env)::starEach jbj env:=by
 rw[starEach];intro e p h;cases h
theorem se_un {op:UnaryOp} {a:Expr} {jbj:List Expr} {pos:Pos} {env:Env}:starEach (.UnaryOp op a pos::jbj) env=(false,eval (.UnaryOp op a pos) env)::starEach jbj env:=by
 rw[starEach];intro e p h;cases h
theorem jaf {x:Str} {jbj:List Expr} {pos:Pos} {env:Env}:starEach (.Name x pos::jbj) env=(false,eval (.Name x pos) env)::starEach jbj env:=by
 rw[starEach];intro e p h;cases h
theorem jaH {a:Expr} {es:List Expr} {ks:List Keyword} {jbj:List Expr} {pos:Pos} {env:Env}:starEach (.Call a es ks pos::jbj) env=(false,eval (.Call a es ks pos) env)::starEach jbj env:=by
 rw[starEach];intro e p h;cases h
theorem jaM {a b:Expr} {op:Operator} {jbj:List Expr} {pos:Pos} {env:Env}:starEach (.BinOp a op b pos::jbj) env=(false,eval (.BinOp a op b pos) env)::starEach jbj env:=by
 rw[starEach];intro e p h;cases h
theorem jaI {a b:Expr} {jbj:List Expr} {pos:Pos} {env:Env}:starEach (.Subscript a b pos::jbj) env=(false,eval (.Subscript a b pos) env)::starEach jbj env:=by
 rw[starEach];intro e p h;cases h
theorem jci {es:List Expr} {jbj:List Expr} {pos:Pos} {env:Env}:starEach (.List es pos::jbj) env=(false,eval (.List es pos) env)::starEach jbj env:=by
 rw[starEach];intro e p h;cases h
theorem jep {a:Expr} {gs:List Comprehension} {sc:Scope} {jbj:List Expr} {pos:Pos} {env:Env}:starEach (.ListComp a gs sc pos::jbj) env=(false,eval (.ListComp a gs sc pos) env)::starEach jbj env:=by
 rw[starEach];intro e p h;cases h
structure WE (X:Cx) (e:Expr) (t:TE):Prop where
 h:PE X e t
structure WA (X:Cx) (es:List Expr) (t:TA):Prop where
 h:PA X es t
structure WS (X:Cx) (st:Stmt) (t:TS):Prop where
 h:PS X st t
structure WSs (X:Cx) (st:List Stmt) (t:TS):Prop where
 h:PSs X st t
section
variable {X:Cx} {pos:Pos}
theorem jcE {st:Stmt} {jbj:List Stmt} {t u:TS} (h1:WS X st t) (h2:WSs X jbj u):WSs X (st::jbj) (jjE t u):=⟨jad h1.h h2.h⟩
theorem jdV {st:Stmt} {t:TS} (h:WS X st t):WSs X [st] t:=⟨jae h.h⟩
theorem jfa {e:Expr} {te:TE} (he:WE X e te):WS X (.Return (some e) pos) (jic te):=⟨jap he.h⟩
theorem jht {e:Expr} {tt:TT} {b1 b2:List Stmt} {t1 t2:TS} (h:PT X e tt) (h1:WSs X b1 t1) (h2:WSs X b2 t2):WS X (.If e b1 b2 pos) (jjF tt t1 t2):=⟨jaR h h1.h h2.h⟩
theorem jfb {es:List Expr} {t:TA} (h:WA X es t):WE X (.List es pos) (jjR t):=⟨jaN h.h⟩
theorem jbf {es:List Expr} {k:Nat} {t:TA} (h:WA X es t):WE X (.Tuple es k pos) (jjQ t):=⟨ja5 h.h⟩
theorem ja3:WA X [] jgD:=⟨jac⟩
theorem jao {e:Expr} {es:List Expr} {te:TE} {t:TA} (ha:WE X e te) (hr:WA X es t) (hs:starEach (e::es) X.env=(false,eval e X.env)::starEach es X.env):WA X (e::es) (jeC te t):=⟨jaa ha.h hr.h hs⟩
end
section
variable {P:Program} {w:World} {K:PySem.W.Frag} {mg:Str->Option Value} {base:Heap}
theorem At.okW {x:Str} {st:Stmt} {N ps:List Str} {dvs:List V} {k:Nat} {sp:Sp} (F:At K mg x st ps dvs) (S:FnScope N ps (jag st)) (len:∀vs H Q E,sp vs H Q E->vs.length=ps.length)
  (hbody:∀(f:Addr) (cdv:Value) (A:Around) (outer:List Env) (s:Shared) (H:Hp) (vs:List V) (Q:VK) (E:XK),Room k (A.deeper (envOfC x (jag st) s.heap.objs.size f cdv))->sp vs H Q E ->
   ∃t,WSs (jfu CX0 P w K mg base N x (jag st) f cdv A outer s H E).nox (jaX st) t/\t { nx:=fun _ H'=>Q .non H',rt:=Q } (start N vs) H):jaw P w K mg base CX0 (k+1) x ps dvs sp :=
 F.ok S len fun f cdv A outer s H vs Q E hr h=>let ⟨t,h1,h2⟩:=hbody f cdv A outer s H vs Q E hr h;⟨t,h1.h,h2⟩
end
section
variable {ρ:St} {te:TE} {tt:TT} {acc:Addr} {Z:Hp->Prop} {H1:Hp}
def SameT (H H':Hp):Prop:=∀a xs,H a=some (.tup xs)->H' a=some (.tup xs)
theorem Same.t {H H':Hp} (s:Same H H'):SameT H H':=fun a xs h=>s a _ h
theorem SameT.trans {H H' J:Hp} (s:SameT H H') (t:SameT H' J):SameT H J:=fun a xs h=>t a xs (s a xs h)
theorem SameT.refl (H:Hp):SameT H H:=fun _ _ h=>h
theorem SameT.upd {H:Hp} {a:Addr} {xs ys:List V} (h:H a=some (.lst xs)):SameT H (upd H a (.lst ys)):=fun b zs hb=>by
 have ne:b≠a:=fun e=>by
  subst e;rw[h] at hb;cases hb
 rw[jat ne];exact hb
def Stab (p:Nat->V->Hp->Prop):Prop:=∀i y H H',p i y H->SameT H H'->p i y H'
theorem snocP {p:Nat->V->Hp->Prop} {xs:List V} {y:V} {i:Nat} {H:Hp} (hl:xs.length=i) (hp:∀j z,xs[j]?=some z->p j z H) (py:p i y H):∀j z,(xs++[y])[j]?=some z->p j z H:=fun j z hz=>by
 by_cases cj:j<xs.length
 ·rw[xaA cj] at hz;exact hp j z hz
 ·have cj2:j<(xs++[y]).length:=(xai.mp hz).1;rw[xab] at cj2;have e:j=i:=by
   have:j<xs.length+1:=cj2;omega
  subst e;rw[xaC (by omega),hl,xbv] at hz;cases hz;exact py
theorem jk8 {lo:Int} {n:Nat} (p:Nat->V->Hp->Prop) (st:Stab p) (hn:n<1000) (hacc:H1 acc=none)
  (hs:∀(i:Nat) (H3:Hp) (R:V->Hp->Prop),i<n->Same H1 H3->(∀y H4,Same H3 H4->p i y H4->R y H4)->te (some (.int (lo+i))::ρ) H3 R)
  (hd:∀ys H',Same H1 H'->H' acc=some (.lst ys)->ys.length=n->(∀i y,ys[i]?=some y->p i y H')->Z H'):CompGo (Itr lo n) ρ (jbL 0) jcg te acc Z H1:=by
 refine jdm (fun i xs H=>Same H1 H/\H acc=some (.lst xs)/\xs.length=i/\∀j y,xs[j]?=some y->p j y H) ⟨Same.new hacc _,upd_same,rfl,fun j y h=>by simp at h⟩ ?_ ?_
 ·rintro i xs H hi ⟨g1,g2,hl,hp⟩;refine hs i H _ hi g1 fun y H4 s4 py=>⟨s4 _ _ g2,jaP (by omega),Same.keepN (g1.trans s4) hacc _,upd_same,?_,?_⟩
  ·rw[xab,hl];rfl
  ·have u:=SameT.upd (ys:=xs++[y]) (s4 _ _ g2);exact snocP hl (fun j z hz=>st _ _ _ _ (hp j z hz) (s4.t.trans u)) (st _ _ _ _ py u)
 ·rintro xs H ⟨g1,g2,hl,hp⟩;exact hd xs H g1 g2 hl hp
end
section
variable {X:Cx} {tg:Expr}
def Asc (x:Str):Prop:=(x.cps.all fun c=>decide (c<128))=true
def Its (x:Str):It:=⟨fun i _=>i<x.cps.size,fun i H v H'=>H'=H/\∃c,x.cps[i]?=some c/\v=.str ⟨#[c]⟩,fun i _=>x.cps.size<=i⟩
theorem jiB {P:Program} {w:World} {K:PySem.W.Frag} {tg:Expr} (it:Addr) (x:Str) (t:Tok):Turn P w K tg (Its x) [it] it (fun i h=>h.IsStrIter it "str_ascii_iterator" x t i) where
 mem:=by simp
 obj:=fun i h st b hb=>by
  have e:b=it:=by simpa using hb
  subst e;obtain⟨o,e,c,d⟩:=st;exact⟨o,e,fun v z=>by rw[d] at z;cases z⟩
 keep:=fun i h h' st k=>by
  obtain⟨o,e,c,d⟩:=st;exact⟨o,k it (by simp) o e,c,d⟩
 item:=by
  intro X hP hw hK hc i pins s σ H E I hf st hg;subst hP hw hK;have hg':i<x.cps.size:=hg;have hx:x.cps[i]?=some x.cps[i]:=Array.getElem?_eq_getElem hg';obtain⟨f0,f1,f2,f3,f4,f5⟩:=hf it (by simp);refine wpAny_pyNext_ascii_item st hx fun h' st' sb=>?_;have I1:Inv X pins σ H { s with heap:=h',toks:=s.toks+1 }:=I.turned (fun b o hb e=>(sb.2 b hb).trans e) f0 f1 f3 f4 f5;obtain⟨o,e,c,d⟩:=id st';exact⟨_,rfl,jik (s:={ s with heap:=h',toks:=s.toks+1 }) e c d (by decide) ⟨.str ⟨#[x.cps[i]]⟩,H,I1,⟨_,rfl⟩,⟨rfl,_,hx,rfl⟩,st',fun b hb=>(hf b hb).1⟩⟩
 done:=by
  intro X hP hw hK hc i pins s σ H E I hf st hg;subst hP hw hK;have hg':x.cps.size<=i:=hg;obtain⟨f0,f1,f2,f3,f4,f5⟩:=hf it (by simp);exact wpAny_pyNext_ascii_end (I.ok.hd hc) st (by simpa using hg') fun h' eb=>⟨rfl,I.turned (t':=s.toks) (fun b o hb e=>eb b o hb e) f0 f1 f3 f4 f5⟩
 self:=fun _ _ _ _ _ st h=>wpAny_pyIter_striter_ascii st h
def iStr (tl:TE):TI:=fun σ H R=>tl σ H fun v H1=>∃x,v=.str x/\Asc x/\R (Its x) H1
theorem jk9 {l:Expr} {tl:TE} (hl:PE X l tl):PI X tg l (iStr tl):=by
 intro pins s σ H R I h;refine thn (hl pins s σ H _ I h) fun v s1 ⟨x,H1,I1,r1,q1⟩=>?_;obtain⟨y,e,ha,q⟩:=q1;subst e;obtain⟨t,rfl⟩:=r1;refine wpAny_pyIter_ascii ha ?_;refine⟨s1.heap.objs.size,[s1.heap.objs.size],_,_,H1,rfl,I1.kept (t':=s1.toks) fun b o e=>Heap.get?_push_of_some _ e,jiB _ y t,⟨_,Heap.get?_push_size _ rfl,rfl,rfl⟩,fun b hb=>?_,q⟩;have e:b=s1.heap.objs.size:=by simpa using hb
 subst e;exact I1.fpOk (xac _) (I1.hok.fresh (xac _))
theorem jfc:OpR X (compareOp .LtE) (fun x y H Q=>∃i j,x=.str i/\y=.str j/\Q (.bl (!decide (j.cps.toList<i.cps.toList))) H):=by
 intro pins s σ H x y v u Q I rx ry h;obtain⟨i,j,rfl,rfl,q⟩:=h;obtain⟨t,rfl⟩:=rx;obtain⟨t',rfl⟩:=ry;exact PySem.P.le_str (jaT I q rfl)
end
section
variable {X:Cx} {e:Expr} {lo hi:Option Expr} {te:TE} {tl th:TO} {pos p2:Pos}
theorem jj4 {pins:List (Addr × Obj)} {σ:St} {H:Hp} {s:Shared} {z:Str} {t:Tok} {vl vu:Value} {l u:Option Int} {Q:VK} (I:Inv X pins σ H s) (hz:z.length<=sizeLine) (pl:IsPart vl l) (pu:IsPart vu u) (h:l=none/\u≠none\/l≠none/\u=none) (q:Q (.str (Txt.slice z l u)) H) :
    ItemOn (model X.prog X.w) X.A X.xe (.str z t) (.ref s.heap.objs.size) (EP X pins σ Q) { s with heap:=s.heap.push { cls:=.type "slice",data:=.fields #[vl,vu,.none] } }:=by
  cases pl with
  | none =>
    cases pu with
    | none=>simp at h
    | int j tj=>exact SBH.sliceItem_ns (P:=fun h'=>∀b o,s.heap.get? b=some o->h'.get? b=some o) (fun h ob p b o e=>Heap.get?_push_of_some _ (p b o e)) (fun b o e=>e) (fun h' t' k p=>⟨.str _,H,I.kept p,⟨_,rfl⟩,q⟩) hz
  | int i t1 =>
    cases pu with
    | none=>exact SBH.sliceItem_sn (P:=fun h'=>∀b o,s.heap.get? b=some o->h'.get? b=some o) (fun h ob p b o e=>Heap.get?_push_of_some _ (p b o e)) (fun b o e=>e) (fun h' t' k p=>⟨.str _,H,I.kept p,⟨_,rfl⟩,q⟩) hz
    | int j tj=>simp at h
def rSlS:V->Option Int->Option Int->Hp->VK->Prop:=fun x l u H Q=>∃z,x=.str z/\z.length<=sizeLine/\(l=none/\u≠none\/l≠none/\u=none)/\Q (.str (Txt.slice z l u)) H
theorem jbz (he:PE X e te) (hl:PO X lo tl) (hu:PO X hi th):PE X (.Subscript e (.Slice lo hi none p2) pos) (tSl rSlS te tl th):=by
 intro pins s σ H Q I h;refine Subscript_ (thn (he pins s σ H _ I h) fun v s1 ⟨x,H1,I1,r1,q1⟩=>?_);refine wpAny_Slice (thn (hl pins s1 σ H1 _ I1 q1) fun vl s2 ⟨l,H2,I2,pl,q2⟩=>thn (hu pins s2 σ H2 _ I2 q2) fun vu s3 ⟨u,H3,I3,pu,q3⟩=>?_);rw[evalPart_none];refine wpAny_pure ?_;obtain⟨z,rfl,hz,hh,q⟩:=q3;obtain⟨t,rfl⟩:=r1;obtain⟨T,id,hT,ht,hg⟩:=jj4 (t:=t) I3 hz pl pu hh q;show wpAny (model X.prog X.w) X.A (subscriptTail e (.Slice lo hi none p2) (.str z t) (.ref s3.heap.objs.size)) (EP X pins σ Q) X.xe { s3 with heap:=s3.heap.push { cls:=.type "slice",data:=.fields #[vl,vu,.none] } };exact tail_any (ops:=[.ref s3.heap.objs.size,.str z t]) ht hT hg (by with_unfolding_all rfl)
end
section
variable {tl:TE} {g:TG} {tb:TS} {D:Ends} {σ:St} {H:Hp} {ix:List Nat} {tt:TT} {te:TE} {Q:VK}
theorem jje:jjK (iStr tl) g tb D σ H=tl σ H fun v H1=>∃x,v=.str x/\Asc x/\jkG (Its x) g tb D σ H1:=rfl
theorem jhu:jfy (iStr tl) ix g tt te σ H Q=tl σ H fun v H1=>∃x,v=.str x/\Asc x/\∀acc,H1 acc=none->CompGo (Its x) (jaL σ ix) g tt te acc (fun H'=>Q (.ref acc) H') H1:=rfl
end
section
variable {ρ:St} {te:TE} {acc:Addr} {Z:Hp->Prop} {H1:Hp}
theorem compS {x:Str} (f:Nat->V) (hn:x.cps.size<1000) (hacc:H1 acc=none)
  (hs:∀(c:Nat) (H3:Hp) (R:V->Hp->Prop),c∈x.cps.toList->Same H1 H3->(∀H4,Same H3 H4->R (f c) H4)->te (some (.str ⟨#[c]⟩)::ρ) H3 R)
  (hd:∀H',Same H1 H'->H' acc=some (.lst (x.cps.toList.map f))->Z H'):CompGo (Its x) ρ (jbL 0) jcg te acc Z H1:=by
 have hl:x.cps.toList.length=x.cps.size:=Array.length_toList;refine⟨fun i m xs H=>(Same H1 H/\H acc=some (.lst xs)/\xs=(x.cps.toList.take i).map f)/\i<=x.cps.size/\m=x.cps.size-i,⟨x.cps.size,⟨Same.new hacc _,upd_same,rfl⟩,xaN _,rfl⟩,?_⟩;rintro i m xs H ⟨⟨g1,g2,rfl⟩,hi,rfl⟩;by_cases hlt:i<x.cps.size
 ·refine .inr ⟨hlt,(fun y H4=>y=f x.cps[i]/\Same H1 H4/\H4 acc=some (.lst ((x.cps.toList.take i).map f))),fun _=>False,?_,fun _ z=>z.elim,?_⟩
  ·rintro y H4 ⟨rfl,s4,a4⟩;refine⟨a4,jaP (by rw[xaa,xag];omega),x.cps.size-(i+1),by omega,⟨Same.keepN s4 hacc _,upd_same,?_⟩,hlt,rfl⟩;have ez:x.cps.toList[i]?=some x.cps[i]:=by simp [hlt]
   rw[xa4,ez,xaj];rfl
  ·rintro v0 v H' ⟨rfl,c,hc,rfl⟩;have ec:c=x.cps[i]:=by
    rw[Array.getElem?_eq_getElem hlt] at hc;exact (Option.some.inj hc).symm
   subst ec;refine⟨⟨_,rfl⟩,?_⟩;simp only[jcg,if_true];exact hs _ H' _ (by simp) g1 fun H4 s4=>⟨rfl,g1.trans s4,s4 _ _ g2⟩
 ·have:i=x.cps.size:=by omega
  subst this;rw[<- hl,xaX] at g2;exact .inl ⟨xac _,hd H g1 g2⟩
end
theorem jj5:typeLookup (.type "list_reverseiterator") "__len__"=pure none:=by with_unfolding_all rfl
theorem jiC:typeLookup (.type "list_reverseiterator") "__length_hint__"=pure (some (.builtin "list_reverseiterator.__length_hint__")):=by with_unfolding_all rfl
theorem jiD {M:Model} {A:Around} {E:Value->Shared->Prop} {s:Shared} {Q:Bool->Shared->Prop} {I l:Addr} {i:Int} (h:s.heap.IsRevIter I l i) (q:Q false s):wpAny M A (Builtin.List.listLengthHint (.ref I)) Q E s:=by
 obtain⟨o,ho,hc,hd⟩:=h;have ty:s.TypeIs (.ref I) "list_reverseiterator":=⟨o,ho,hc⟩;unfold Builtin.List.listLengthHint;refine wpAny_bind (wpAny_specialOf ty jj5 ?_);dsimp only;refine wpAny_ite_split (fun c=>absurd c (by decide)) fun _=>?_;refine wpAny_ite_split (fun c=>absurd c (by decide)) fun _=>?_;refine wpAny_bind (wpAny_specialOf ty jiC ?_);dsimp only;have sp:splitId "list_reverseiterator.__length_hint__"=some ("list_reverseiterator","__length_hint__"):=by decide +kernel
 rw[sp];dsimp only;refine wpAny_bind (wpAny_isInstance (b:=true) ty (by with_unfolding_all rfl) ?_);refine wpAny_ite_split (fun c=>absurd c (by decide)) fun _=>?_;refine wpAny_ite_split (fun c=>?_) fun c=>absurd c (by decide);refine wpAny_ite_split (fun c=>absurd c (by decide)) fun _=>?_;exact wpAny_pure q
theorem jgI {prog:Program} {w:World} {A:Around} {s:Shared} {R:Result->Shared->Prop} {I l:Addr} {items:Array Value} (hh:A.handled=none) (hne:l≠I) (S:Addr) (res:Value) (c₀:Nat) (hI:s.heap.IsRevIter I l ((items.size:Int)-1)) (hl:s.heap.IsList l items) (hS:S≠I) (hSl:S≠l)
  (e:s.heap.get? S=some { cls:=.type "list",data:=.seq #[] c₀ }) (hz:items.size<=sizeLine)
  (q:∀(h':Heap) (tk:Nat) (acc':Array Value) (c':Nat),(∀b o,b≠S->b≠I->s.heap.get? b=some o->h'.get? b=some o)->h'.get? S=some { cls:=.type "list",data:=.seq acc' c' }->ItemsOf (fun i v=>items[items.size-1-i]?=some v) acc' items.size->R (.ok (.ret res)) { s with heap:=h',toks:=tk }) :
  wpAny (model prog w) A.in1 (Builtin.List.listExtendWith (.ref S) (.ref I) res)
   (fun fin s'=>match fin with | .done f=>R (.ok f) s' | .again c'=>c'.quiet=true/\codeAny (model prog w) A c' R s') (fun e s'=>R (.error e) s') s:=by
 obtain⟨o,ho,hc,hd⟩:=id hI;have ty:s.TypeIs (.ref I) "list_reverseiterator":=⟨o,ho,hc⟩;unfold Builtin.List.listExtendWith;refine wpAny_bind (wpAny_typeOf ty ?_);refine wpAny_ite_split (fun c=>?_) fun _=>?_
 ·exfalso;have e1:Builtin.List.listSameRef (.ref S) (.ref I)=false:=by
   simp [Builtin.List.listSameRef,hS]
  rw[e1] at c
  revert c
  decide
 refine wpAny_bind (wpAny_pyIter_revIter hI ?_);refine wpAny_bind (wpAny_holding (jiD hI ?_));refine wpAny_ite_split (fun c=>absurd c (by decide)) fun _=>?_;have W:=(Walks.listRev (prog:=prog) (w:=w) (A:=A.in1) hh I l hne items).toS;refine wpAny_pure ⟨plainId_quiet F.plain_extend_loop _,?_⟩;refine codeAny_extend_loopS W hz S (by simp [hS,hSl]) res items.size 0 s #[] c₀ rfl (xaN _) ⟨xaN _,by simpa using hI,hl⟩ e ⟨rfl,fun j v h=>by simp at h⟩ fun s' acc' c' mv e' it=>?_;have eq:=Moved.eq_with mv;rw[eq];exact q s'.heap s'.toks acc' c' (fun b o h1 h2 e=>mv.heap b o (by simp [h1,h2]) e) e' it
theorem jiE {prog:Program} {w:World} {A:Around} {s:Shared} {R:Result->Shared->Prop} {I l:Addr} {items:Array Value} (hh:A.handled=none) (hne:l≠I) (S:Addr) (hI:s.heap.IsRevIter I l ((items.size:Int)-1)) (hl:s.heap.IsList l items) (hS:S≠I) (hSl:S≠l)
  (e:s.heap.get? S=some { cls:=.type "list",data:=.seq #[] }) (hz:items.size<=sizeLine)
  (q:∀(h':Heap) (tk:Nat) (acc':Array Value) (c':Nat),(∀b o,b≠S->b≠I->s.heap.get? b=some o->h'.get? b=some o)->h'.get? S=some { cls:=.type "list",data:=.seq acc' c' }->ItemsOf (fun i v=>items[items.size-1-i]?=some v) acc' items.size->R (.ok (.ret .none)) { s with heap:=h',toks:=tk }) :
  wpAny (model prog w) A.in1 (Builtin.«list.__init__» { pos:=[.ref S,.ref I] })
   (fun fin s'=>match fin with | .done f=>R (.ok f) s' | .again c'=>c'.quiet=true/\codeAny (model prog w) A c' R s') (fun e s'=>R (.error e) s') s:=by
 unfold Builtin.«list.__init__»;dsimp only;refine wpAny_ite_split (fun c=>absurd c (by decide)) fun _=>?_;refine wpAny_ite_split (fun c=>absurd c (by simp)) fun _=>?_;refine wpAny_bind (wpAny_bind (wpAny_seqItems e rfl (wpAny_pure ?_)));refine wpAny_bind (wpAny_updateSeq e rfl ?_ (by simp) (by simp));refine wpAny_bind (wpAny_letGo ?_);have eS:=Heap.get?_update_self (Obj.mapSeq fun _=>(#[]:Array Value)) e rfl;have eO:∀b,b≠S->(s.heap.update S (Obj.mapSeq fun _=>(#[]:Array Value))).get? b=s.heap.get? b:=fun b hb=>Heap.get?_update_other s.heap _ (Ne.symm hb);obtain⟨o,ho,hc,hd⟩:=hI;obtain⟨o2,ho2,hc2,n2,hd2⟩:=hl;refine jgI (s:={ s with heap:=s.heap.update S (Obj.mapSeq fun _=>(#[]:Array Value)) }) (items:=items) hh hne S .none _ ⟨o,(eO I (Ne.symm hS)).trans ho,hc,hd⟩ ⟨o2,(eO l (Ne.symm hSl)).trans ho2,hc2,n2,hd2⟩ hS hSl eS hz fun h' tk acc' c' k e' it=>?_;exact q h' tk acc' c' (fun b o h1 h2 hb=>k b o h1 h2 ((eO b h1).trans hb)) e' it
theorem jeG {prog:Program} {w:World} {A:Around} {E:Value->Shared->Prop} {s:Shared} {Q:Value->Shared->Prop} {I l:Addr} {items:Array Value} (hh:A.handled=none) (hne:l≠I) (hI:s.heap.IsRevIter I l ((items.size:Int)-1)) (hl:s.heap.IsList l items) (hz:items.size<=sizeLine)
  (q:∀(h':Heap) (tk:Nat) (acc':Array Value) (c':Nat),(∀b o,b≠I->s.heap.get? b=some o->h'.get? b=some o)->h'.get? s.heap.objs.size=some { cls:=.type "list",data:=.seq acc' c' }->ItemsOf (fun i v=>items[items.size-1-i]?=some v) acc' items.size->Q (.ref s.heap.objs.size) { s with heap:=h',toks:=tk }) :
  wpAny (model prog w) A (call (.type "list") [.ref I]) Q E s:=by
 obtain⟨o,ho,hc,hd⟩:=hI;obtain⟨o2,ho2,hc2,n2,hd2⟩:=hl;have n1:s.heap.objs.size≠I:=Ne.symm (xas (Heap.lt_size ho));have n2':s.heap.objs.size≠l:=Ne.symm (xas (Heap.lt_size ho2));refine callType_codes F.called_list (F.typeCall_list_1 _) F.entry_list_init (Q₁:=fun obj s₁=>obj=.ref s.heap.objs.size/\s₁={ s with heap:=s.heap.push { cls:=.type "list",data:=.seq #[] } }) (code_list_new _ ⟨rfl,rfl⟩) ?_;rintro obj s₁ ⟨rfl,rfl⟩;have eS:(s.heap.push { cls:=.type "list",data:=.seq #[] }).get? s.heap.objs.size=some { cls:=.type "list",data:=.seq #[] }:=Heap.get?_push_size _ rfl;refine⟨⟨_,eS,rfl⟩,F.args_list_init_2 _ _,?_⟩;refine jiE (A:=A.in1) (s:={ s with heap:=s.heap.push { cls:=.type "list",data:=.seq #[] } }) (items:=items) hh hne s.heap.objs.size ⟨o,Heap.get?_push_of_some _ ho,hc,hd⟩ ⟨o2,Heap.get?_push_of_some _ ho2,hc2,n2,hd2⟩ n1 n2' eS hz fun h' tk acc' c' k e' it=>?_;exact⟨rfl,q h' tk acc' c' (fun b o h1 hb=>k b o (xas (Heap.lt_size hb)) h1 (Heap.get?_push_of_some _ hb)) e' it⟩
theorem Vals.app {xs ys:List V} {us vs:List Value} (h:Vals xs us) (k:Vals ys vs):Vals (xs++ys) (us++vs):=by
 induction h with
 | nil=>exact k
 | cons r _ ih=>exact .cons r ih
theorem Vals.rev {xs:List V} {us:List Value} (h:Vals xs us):Vals xs.reverse us.reverse:=by
  induction h with
  | nil=>exact .nil
  | cons r _ ih =>
    rw[xaO,xaO];exact Vals.app ih (.cons r .nil)
theorem jhv {items acc:Array Value} (h:ItemsOf (fun i v=>items[items.size-1-i]?=some v) acc items.size):acc.toList=items.toList.reverse:=by
 obtain⟨h1,h2⟩:=h;refine List.ext_getElem? fun i=>?_;by_cases hi:i<items.size
 ·have e:acc[i]?=some acc[i]:=Array.getElem?_eq_getElem (by omega);have z:=h2 i _ e;rw[List.getElem?_reverse (by rw[Array.length_toList];exact hi),Array.length_toList,Array.getElem?_toList,Array.getElem?_toList,e,z]
 ·rw[xa5 (by rw[Array.length_toList];omega),xa5 (by rw[xaV,Array.length_toList];omega)]
section
variable {X:Cx} {e:Expr} {te:TE} {p p' pos pos':Pos}
def jeH (K:PySem.W.Frag) (te:TE):TE:=fun σ H Q=>te σ H fun x H1=>∃a ys,x=.ref a/\SqL K H1 a ys/\∀l,H1 l=none->Q (.ref l) (upd H1 l (.lst ys.reverse))
theorem jgJ (hc:X.calm=true) (hg:Gl X "list") (hm:X.mg "list"=none) (hg':Gl X "reversed") (hm':X.mg "reversed"=none) (he:PE X e te)
  (h1:starEach [e] X.env=[(false,eval e X.env)]:=by rfl) (h2:starEach [.Call (.Name "reversed" p') [e] [] pos'] X.env=[(false,eval (.Call (.Name "reversed" p') [e] [] pos') X.env)]:=by rfl) :
  PE X (.Call (.Name "list" p) [.Call (.Name "reversed" p') [e] [] pos'] [] pos) (jeH X.K te):=by
 intro pins s σ H Q I h;refine wpAny_Call_Name_kw (jdL I hg hm boot_list ?_);refine PyProof.Rows.callWith_type1 ?_ h2 rfl;rw[h2];show wpAny _ _ (spliced ((false,eval (.Call (.Name "reversed" p') [e] [] pos') X.env)::[])) _ _ s;refine Calls.spliced_cons ?_;refine wpAny_Call_Name_kw (jdL I hg' hm' boot_reversed ?_);refine PyProof.Rows.callWith_type1 ?_ h1 rfl;rw[h1];show wpAny _ _ (spliced ((false,eval e X.env)::[])) _ _ s;refine Calls.spliced_cons (thn (he pins s σ H _ I h) fun u s1 ⟨x,H1,I1,r1,q1⟩=>?_);obtain⟨a,ys,rfl,hq,q⟩:=q1;cases r1;obtain⟨its,rv,pl,hz⟩:=I1.list hq;have hlen:=rv.length;refine Calls.spliced_nil ?_;refine call_reversed_list pl.isList ?_;refine Calls.spliced_nil ?_;have hla:a<s1.heap.objs.size:=by
  obtain⟨o,ho,_⟩:=pl.isList;exact Heap.lt_size ho
 have hl':(s1.heap.push (revObj a ((its.toArray.size:Int)-1))).IsList a its.toArray:=by
  obtain⟨o,ho,hc',n,hd⟩:=pl.isList;exact⟨o,Heap.get?_push_of_some _ ho,hc',n,hd⟩
 refine jeG (I1.ok.hd hc) (xas hla) ⟨_,Heap.get?_push_size _ rfl,rfl,rfl⟩ hl' (by rw[xad];omega) fun h' tk acc' c' k e' it=>?_;have er:=jhv it;rw[List.toList_toArray] at er;have kp:∀(b:Addr) (o:Obj),s1.heap.get? b=some o->h'.get? b=some o:=fun b o hb=>k b o (xas (Heap.lt_size hb)) (Heap.get?_push_of_some _ hb);have sz:(s1.heap.push (revObj a ((its.toArray.size:Int)-1))).objs.size=s1.heap.objs.size+1:=by
  unfold Heap.push;exact Array.size_push ..
 have hle:s1.heap.objs.size<=(s1.heap.push (revObj a ((its.toArray.size:Int)-1))).objs.size:=by omega
 refine⟨.ref _,_,I1.laid (t':=tk) (o:=.lst ys.reverse) kp hle ?_,rfl,q _ (I1.hok.fresh hle)⟩;refine⟨by rw[xaV];exact hz,its.reverse,c',rv.rev,?_⟩;rw[e',<- er]
end
def jdo (J:It) (n:Nat) (ρ:St) (g:TG) (tt:TT) (te:TE) (acc:Addr) (Z:Hp->Prop) (H1:Hp):Prop :=
  ∃ W : Nat -> Nat -> List V -> Hp -> Prop, (∃ m, W 0 m [] (upd H1 acc (.lst []))) /\ ∀ i m xs H, W i m xs H ->
    ((J.stop i H /\ Z H) \/ (J.go i H /\ ∃ (Nx : V -> Hp -> Prop) (Nn : Hp -> Prop), (∀ y H4, Nx y H4 -> H4 acc = some (.lst xs) /\ xs.length < sizeLine /\ ∃ m', m' < m /\ W (i + 1) m' (xs ++ [y]) (upd H4 acc (.lst (xs ++ [y])))) /\
      (∀H3,Nn H3->∃m',m'<m/\W (i+1) m' xs H3)/\∀(v0:St) x H',v0.length=n->J.yld i H x H'->g x (v0++ρ) H' fun σ2 H2=>(∃v:St,v.length=n/\σ2=v++ρ)/\tt σ2 H2 fun b H3=>if b=true then te σ2 H3 Nx else Nn H3))
section
variable {X:Cx} {N' r xs0:List Str} {ix:List Nat} {cs:Scope} {tg iter elt:Expr} {ifs:List Expr} {pos:Pos} {wi:TI} {g:TG} {tt:TT} {te:TE}
def jhw (wi:TI) (ix:List Nat) (n:Nat) (g:TG) (tt:TT) (te:TE):TE:=fun σ H Q=>wi σ H fun J H1=>∀acc,H1 acc=none->jdo J n (jaL σ ix) g tt te acc (fun H'=>Q (.ref acc) H') H1
end
section
variable {K:PySem.W.Frag} {ta:TA} {tl:TE} {ix:List Nat} {n:Nat} {g:TG} {tt:TT} {te:TE} {σ:St} {H:Hp} {Q:VK}
theorem jf7:jhw (jil K tl) ix n g tt te σ H Q=tl σ H fun x H1=>∃a,x=.ref a/\(∃xs,SqL K H1 a xs)/\∀acc,H1 acc=none->jdo (Itl K a) n (jaL σ ix) g tt te acc (fun H'=>Q (.ref acc) H') H1:=rfl
end
theorem jdW {X:Cx}:jcQ X (.type "tuple") (fun xs H Q=>∃p ys,xs=[.ref p]/\SqL X.K H p ys/\∀l,H l=none->Q (.ref l) (upd H l (.tup ys))):=fun pins s σ H xs us Q I r ⟨p,ys,e,k,q⟩=>jbg pins s σ H xs us Q I r ⟨p,ys,e,.inl ⟨k,q⟩⟩
theorem jfH {X:Cx} {K:PySem.W.Frag} {es:List Expr} {k:Nat} {t:TGs} {n:Nat} {pos:Pos} (hK:X.K=K) (hc:X.calm=true) (h:PGs X es t)
  (hn:(assignEach es X.env).length=n:=by rfl) (hst:(assignEach es X.env).findIdx? (·.1)=none:=by rfl):PG X (.Tuple es k pos) (ji7 K n t):=hK▸jfW hc h hn hst
def SameB (L:Addr) (H H':Hp):Prop:=∀b o,b≠L->H b=some o->H' b=some o
theorem SameB.refl (L:Addr) (H:Hp):SameB L H H:=fun _ _ _ h=>h
theorem SameB.trans {L:Addr} {H H' J:Hp} (s:SameB L H H') (t:SameB L H' J):SameB L H J:=fun b o n h=>t b o n (s b o n h)
theorem Same.b {L:Addr} {H H':Hp} (s:Same H H'):SameB L H H':=fun b o _ h=>s b o h
theorem SameB.acc {L acc:Addr} {H H':Hp} {o:HO} (s:SameB L H H') (h:H acc=none):SameB L H (upd H' acc o):=fun b u n q=>by rw[jat (jaD q h)];exact s b u n q
theorem SameB.none {L b:Addr} {H H':Hp} (s:SameB L H H') (n:b≠L) (h:H' b=none):H b=none:=by
 cases e:H b with
 | none=>rfl
 | some o=>rw[s b o n e] at h;cases h
theorem SameB.set {L:Addr} {H:Hp} {o:HO}:SameB L H (upd H L o):=fun b u n h=>by rw[jat n];exact h
end L2
namespace L2
open PySem PyProof.Rows PySem.Calls
section
variable {X:Cx} {e st:Expr} {te ts:TE} {pos p2:Pos}
def jla (K:PySem.W.Frag) (te ts:TE):TE:=fun σ H Q=>te σ H fun x H1=>ts σ H1 fun k H2=>k=.int (-1)/\∃a xs,x=.ref a/\SqL K H2 a xs/\∀p,H2 p=none->Q (.ref p) (upd H2 p (.lst xs.reverse))
theorem jdX (he:PE X e te) (hs:PE X st ts):PE X (.Subscript e (.Slice none none (some st) p2) pos) (jla X.K te ts):=by
 intro pins s σ H Q I h;refine Subscript_ (thn (he pins s σ H _ I h) fun v s1 ⟨x,H1,I1,r1,q1⟩=>?_);refine wpAny_Slice ?_;rw[evalPart_none];refine wpAny_pure (wpAny_pure ?_);rw[evalPart_some];refine thn (hs pins s1 σ H1 _ I1 q1) fun u s2 ⟨k,H2,I2,r2,q2⟩=>?_;obtain⟨rfl,a,xs,rfl,hx,q⟩:=q2;obtain⟨t,rfl⟩:=r2;cases r1;have I4:Inv X pins σ H2 { s2 with heap:=s2.heap.push { cls:=.type "slice",data:=.fields #[.none,.none,.int (-1) t] } }:=I2.kept (t':=s2.toks) fun b ob q=>Heap.get?_push_of_some _ q;obtain⟨its,r,ht,hz⟩:=I4.list hx;have hlen:=r.length;show wpAny (model X.prog X.w) X.A (subscriptTail e (.Slice none none (some st) p2) (.ref a) (.ref s2.heap.objs.size)) (EP X pins σ Q) X.xe { s2 with heap:=s2.heap.push { cls:=.type "slice",data:=.fields #[.none,.none,.int (-1) t] } };refine tail_any (ops:=[.ref a,.ref s2.heap.objs.size]) ht.isList.typeIs slot_list_getitem.lookup ?_ (by with_unfolding_all rfl);refine wpAny_getItem_list_slice ht.isList (Heap.IsSliceOf.new ..) .none .none (.int (-1) t) (by simp) ?_ (by rw[xad]<;>omega);rw[PySem.W.krv_pick];refine⟨.ref _,_,I4.laid (t':=s2.toks) (o:=.lst xs.reverse) (fun b ob q=>Heap.get?_push_of_some _ q) (xac _) ?_,rfl,q _ (I4.hok.fresh (xac _))⟩;exact⟨by rw[xaV];exact hz,_,0,r.reverse,Heap.get?_push_size _ rfl⟩
end
end L2
namespace L2
open PySem PySem.Spec PyProof.Rows
section
variable {X:Cx} {tg:Expr}
def It3 (lo c:Int) (n:Nat):It:=⟨fun i _=>i<n,fun i H x H'=>H'=H/\x=.int (lo+i*c),fun i _=>n<=i⟩
def iRng3 (ta:TA):TI:=fun σ H R=>ta σ H fun vs H1=>∃i j c:Int,vs=[.int i,.int j,.int c]/\(-(2^30)<=i/\i<2^30/\-(2^30)<=j/\j<2^30/\1<=c/\c<2^30)/\R (It3 i c (Builtin.Range.rangeSize i j c).toNat) H1
end
end L2
namespace L2
section
variable {K:PySem.W.Frag} {tl:TE} {ta:TA} {ix:List Nat} {g:TG} {tt:TT} {te:TE} {σ:St} {H:Hp} {Q:VK}
theorem jf8:jfy (iRng3 ta) ix g tt te σ H Q=ta σ H fun vs H1=>∃i j c:Int,vs=[.int i,.int j,.int c]/\(-(2^30)<=i/\i<2^30/\-(2^30)<=j/\j<2^30/\1<=c/\c<2^30)/\∀acc,H1 acc=none->CompGo (It3 i c (PySem.Builtin.Range.rangeSize i j c).toNat) (jaL σ ix) g tt te acc (fun H'=>Q (.ref acc) H') H1:=rfl
end
end L2
namespace L2
open PySem PySem.Spec PyProof.Rows
theorem jeI {M:Model} {A:Around} {E:Value->Shared->Prop} {s:Shared} {scope:Scope} {globals:Addr} {cl:List (Str × Addr)} {qual:Str} {env:Env} {Q:Env->Shared->Prop}
  (hQ:Q (newEnv scope s.heap.objs.size globals (cellsFrom (s.heap.objs.size+1) scope.names cl) qual none .none (some env) builtinsNs) { s with heap:=pushCells (s.heap.push { cls:=.type "dict",data:=.dict #[] }) scope.names }) :
  wpAny M A (newFunctionEnv scope globals cl [] qual none .none (some env)) Q E s:=by
 simp only[newFunctionEnv,Option.isSome_some,if_true];refine wpAny_bind (wpAny_alloc ?_);refine wpAny_bind (wpAny_layCells _ (fun name kind cells=>by cases hkc:kind==NameKind.cell<;>simp [hkc]) _ _ _ _ ?_);rw[show ({ s with heap:=s.heap.push { cls:=.type "dict",data:=.dict #[] } }:Shared).heap.objs.size=s.heap.objs.size+1 from Heap.size_push ..];rw[List.forIn_nil];exact wpAny_bind (wpAny_pure (wpAny_pure hQ))
structure CfOk (n:Nat) (cs:List (Str × Addr)):Prop where
 lt:∀y c,cs.lookup y=some c->c<n
 inj:∀x y c,cs.lookup x=some c->cs.lookup y=some c->x=y
theorem jj6 {n:Nat} {name:Str} {acc:List (Str × Addr)} (k:CfOk n acc):CfOk (n+1) ((name,n)::acc):=by
  refine⟨fun y c e=>?_,fun x y c e1 e2=>?_⟩
  . rw[xau] at e
    cases z:y==name with
    | true=>rw[z] at e;cases e;exact Nat.lt_succ_self _
    | false=>rw[z] at e;exact xaU (k.lt y c e)
  . rw[xau] at e1 e2
    cases z1:x==name with
    | true =>
      cases z2:y==name with
      | true=>exact (beq_iff_eq.mp z1).trans (beq_iff_eq.mp z2).symm
      | false =>
        rw[z1] at e1;rw[z2] at e2;cases e1;exact absurd (k.lt y _ e2) (xaM _)
    | false =>
      cases z2:y==name with
      | true =>
        rw[z1] at e1;rw[z2] at e2;cases e2;exact absurd (k.lt x _ e1) (xaM _)
      | false =>
        rw[z1] at e1;rw[z2] at e2;exact k.inj x y c e1 e2
theorem jj7:∀(names:List (Str × NameKind)) (h:Heap) (acc:List (Str × Addr)),CfOk h.objs.size acc->CfOk (pushCells h names).objs.size (cellsFrom h.objs.size names acc)
  | [],_,_,k=>k
  | (name, kind) :: r, h, acc, k => by
    unfold pushCells cellsFrom;split
    . have z:=jj7 r (h.push { cls:=.type "cell",data:=.cell none }) ((name,h.objs.size)::acc) (by rw[Heap.size_push]; exact jj6 k)
      rwa [Heap.size_push] at z
    . exact jj7 r h acc k
theorem jfI:∀(names:List (Str × NameKind)) (h:Heap) (acc:List (Str × Addr)) (y:Str) (c:Addr),(cellsFrom h.objs.size names acc).lookup y=some c ->
    acc.lookup y=some c\/((y,NameKind.cell)∈names/\h.objs.size<=c/\(pushCells h names).IsCell c none)
  | [],_,_,_,_,e=>.inl e
  | (name, kind) :: r, h, acc, y, c, e => by
    unfold pushCells;unfold cellsFrom at e;by_cases hk:(kind==NameKind.cell)=true
    . rw[if_pos hk] at e |-
      rw[<- Heap.size_push (h:=h) (o:={ cls:=.type "cell",data:=.cell none })] at e;rcases jfI r _ _ y c e with z | ⟨z1,z2,z3⟩
      . rw[xau] at z
        cases q:y==name with
        | true =>
          rw[q] at z;cases z;have e1:=beq_iff_eq.mp q;have e2:=beq_iff_eq.mp hk;subst e1;subst e2;refine .inr ⟨xaE,xac _,⟨_,pushCells_keeps r _ _ _ (Heap.get?_push_size _ rfl),rfl⟩⟩
        | false =>
          rw[q] at z;exact .inl z
      . rw[Heap.size_push] at z2
        exact .inr ⟨xar _ z1,by omega,z3⟩
    . rw[if_neg hk] at e |-
      rcases jfI r h acc y c e with z | ⟨z1,z2,z3⟩
      . exact .inl z
      . exact .inr ⟨xar _ z1,z2,z3⟩
theorem jfd:∀(names:List (Str × NameKind)) (n:Nat) (acc:List (Str × Addr)) (y:Str),(y,NameKind.cell)∉names->(cellsFrom n names acc).lookup y=acc.lookup y
  | [],_,_,_,_=>rfl
  | (name, kind) :: r, n, acc, y, hn => by
    unfold cellsFrom;have hr:(y,NameKind.cell)∉r:=fun z=>hn (xar _ z);by_cases hk:(kind==NameKind.cell)=true
    . rw[if_pos hk,jfd r _ _ y hr,xau]
      cases q:y==name with
      | true =>
        have e1:=beq_iff_eq.mp q;have e2:=beq_iff_eq.mp hk;subst e1;subst e2;exact absurd xaE hn
      | false=>rfl
    . rw[if_neg hk,jfd r _ _ y hr]
theorem jfe:∀(names:List (Str × NameKind)) (n:Nat) (acc:List (Str × Addr)) (y:Str),(y,NameKind.cell)∈names->∃c,(cellsFrom n names acc).lookup y=some c/\n<=c
  | (name, kind) :: r, n, acc, y, hy => by
    unfold cellsFrom;by_cases hr:(y,NameKind.cell)∈r
    . by_cases hk:(kind==NameKind.cell)=true
      . rw[if_pos hk]
        obtain⟨c,h1,h2⟩:=jfe r (n+1) ((name,n)::acc) y hr;exact⟨c,h1,by omega⟩
      . rw[if_neg hk]
        exact jfe r n acc y hr
    . rcases xaf.mp hy with z | z
      . cases z
        rw[if_pos (by rfl),jfd r _ _ _ hr,xau];exact⟨n,by rw[beq_self_eq_true],xac _⟩
      . exact absurd z hr
theorem jj8 {names:List (Str × NameKind)} {n:Nat} {acc:List (Str × Addr)} {y:Str} (h:∃c,acc.lookup y=some c):∃c,(cellsFrom n names acc).lookup y=some c:=by
 by_cases hy:(y,NameKind.cell)∈names
 ·obtain⟨c,h1,_⟩:=jfe names n acc y hy;exact⟨c,h1⟩
 ·rw[jfd names n acc y hy];exact h
theorem jj9 {N:List Str} {sc cs:Scope}:∀{r:List Str} {ix:List Nat},Ixs N sc cs r ix->(∀y∈cs.names,y.2=.free->y.1∈r)->∀y∈cs.names,y.2=.free->sc.names.lookup y.1=some .cell\/sc.names.lookup y.1=some .free:=by
 intro r ix t h y hy hk;obtain⟨i,hi⟩:=xa3 (h y hy hk);obtain⟨j,_,_,h2,_⟩:=t.get hi;exact h2
structure CompScopeC (N:List Str) (sc:Scope) (N':List Str) (ix:List Nat) (x:Str) (r:List Str) (cs:Scope):Prop where
 eq:N'=x::r
 kind:cs.kind=.function
 hown:∀y∈cs.names,y.2=.cell->cs.names.lookup y.1=some .cell
 hnames:∀y∈cs.names,y.2=.local->cs.names.lookup y.1=some .local
 nd:(x::r).Nodup
 fr:∀y∈cs.names,y.2=.free->sc.names.lookup y.1=some .cell\/sc.names.lookup y.1=some .free
 ixs:Ixs N sc cs r ix
theorem CompScope.nest {N:List Str} {sc:Scope} {N':List Str} {ix:List Nat} {x:Str} {r:List Str} {cs:Scope} (eq:N'=x::r) (kind:cs.kind=.function) (hcell:∀y∈cs.names,y.2≠.cell) (hnames:∀y∈cs.names,y.2=.local->cs.names.lookup y.1=some .local)
  (hx:cs.names.lookup x=some .local) (nd:(x::r).Nodup) (h:∀y∈cs.names,y.2=.free->y.1∈r) (ixs:Ixs N sc cs r ix):CompScope N sc N' ix x r cs:=⟨eq,kind,hcell,hnames,hx,nd,jj9 ixs h,ixs⟩
theorem CompScopeC.nest {N:List Str} {sc:Scope} {N':List Str} {ix:List Nat} {x:Str} {r:List Str} {cs:Scope} (eq:N'=x::r) (kind:cs.kind=.function) (hown:∀y∈cs.names,y.2=.cell->cs.names.lookup y.1=some .cell) (hnames:∀y∈cs.names,y.2=.local->cs.names.lookup y.1=some .local)
  (nd:(x::r).Nodup) (h:∀y∈cs.names,y.2=.free->y.1∈r) (ixs:Ixs N sc cs r ix):CompScopeC N sc N' ix x r cs:=⟨eq,kind,hown,hnames,nd,jj9 ixs h,ixs⟩
def jaU (X:Cx) (N':List Str) (cs:Scope) (cl:List (Str × Addr)) (s3:Shared) (H3:Hp) (fp:List Addr):Cx :=
 { X with N:=N',s₀:=s3,H₀:=H3,env:=compEnvC cs (cellsFrom (s3.heap.objs.size+1) cs.names cl) s3.heap.objs.size X.env,outer:=X.stack,stack:=X.stack,ex:=fp,fn:=fun y=>cs.names.lookup y==some .cell,pn:=[],xe:=fun _ _=>False }
theorem jc2 {env:Env} {cs:Scope} {y:Str} {k:NameKind} (h:(relabel cs env).names.lookup y=some k) (hk:k=.cell\/k=.free):(y,NameKind.free)∈cs.names\/(y,NameKind.cell)∈cs.names:=by
 have m:=PySem.mem_of_lookup h;obtain⟨⟨n,k0⟩,h1,h2⟩:=xaB.mp m;by_cases c:(k0==NameKind.free&&env.scope.kind==.function&&env.kindOf n==some .cell)=true
 ·have h2':(n,NameKind.cell)=(y,k):=by rw[<- h2];exact (if_pos c).symm
  cases h2';have:k0=.free:=by
   have z:=(xa2.mp (xa2.mp c).1).1;exact beq_iff_eq.mp z
  rw[this] at h1;exact .inl h1
 ·have h2':(n,k0)=(y,k):=by rw[<- h2];exact (if_neg c).symm
  cases h2';rcases hk with rfl | rfl
  ·exact .inr h1
  ·exact .inl h1
section
variable {X:Cx} {pins:List (Addr × Obj)} {σ:St} {H:Hp} {s:Shared}
theorem Inv.cfs {cs:Scope} {cl:List (Str × Addr)} (I:Inv X pins σ H s) (h2:∀y c,cl.lookup y=some c->X.env.cells.lookup y=some c) :
  CfOk (pushCells (s.heap.push { cls:=.type "dict",data:=.dict #[] }) cs.names).objs.size (cellsFrom (s.heap.objs.size+1) cs.names cl) /\
  ∀y c,(cellsFrom (s.heap.objs.size+1) cs.names cl).lookup y=some c->X.env.cells.lookup y=some c\/((y,NameKind.cell)∈cs.names/\s.heap.objs.size+1<=c/\(pushCells (s.heap.push { cls:=.type "dict",data:=.dict #[] }) cs.names).IsCell c none):=by
 have e:s.heap.objs.size+1=(s.heap.push { cls:=.type "dict",data:=.dict #[] }).objs.size:=(Heap.size_push ..).symm;rw[e];refine⟨jj7 _ _ _ ⟨fun y c q=>?_,fun a b c ha hb=>I.ok.inj a b c (h2 a c ha) (h2 b c hb)⟩,fun y c q=>?_⟩
 ·obtain⟨v,o,ho,_⟩:=I.cell y c (h2 y c q);rw[<- e];exact xaU (Heap.lt_size ho)
 ·rcases jfI _ _ _ y c q with z | z
  ·exact .inl (h2 y c z)
  ·exact .inr z
end
section
variable {X:Cx} {N' r:List Str} {ix:List Nat} {x:Str} {cs:Scope} {tg iter elt:Expr} {ifs:List Expr} {pos:Pos} {wi:TI} {g:TG} {tt:TT} {te:TE}
theorem CompScopeC.clos {sc:Scope} {N:List Str} (S:CompScopeC N sc N' ix x r cs) {env:Env} (he:env.scope=sc) (has:∀y,(env.kindOf y=some .cell\/env.kindOf y=some .free)->∃c,env.cells.lookup y=some c) :
  ∃cl:List (Str × Addr),closureFor cs env=pure cl/\(∀y c,cl.lookup y=some c->env.cells.lookup y=some c)/\(∀y,(y,NameKind.free)∈cs.names->∃c,cl.lookup y=some c) :=
 jdl fun y hy hk=>has y.1 (by
  subst he;exact S.fr y hy hk)
end
end L2
namespace L2
open PySem PyProof.Rows
end L2
namespace L2
open PySem PySem.Spec PyProof.Rows
def Ite (K:PySem.W.Frag) (a:Addr):It :=
 ⟨fun i H=>∃xs x,SqL K H a xs/\xs[i]?=some x,fun i H x H'=>∃T v,x=.ref T/\H T=none/\H'=upd H T (.tup [.int i,v])/\∀xs,SqL K H a xs->xs[i]?=some v,fun i H=>∃xs,SqL K H a xs/\xs.length<=i⟩
section
variable {X:Cx} {elts:List Expr} {x1:Nat} {tpos:Pos}
def iEnum (K:PySem.W.Frag) (ta:TA):TI:=fun σ H R=>ta σ H fun vs H1=>∃a,vs=[.ref a]/\(∃xs,SqL K H1 a xs)/\R (Ite K a) H1
end
section
variable {K:PySem.W.Frag} {ta:TA} {tl:TE} {g:TG} {tb:TS} {D:Ends} {σ:St} {H:Hp}
theorem jjf:jjK (iEnum K ta) g tb D σ H=ta σ H fun vs H1=>∃a,vs=[.ref a]/\(∃xs,SqL K H1 a xs)/\jkG (Ite K a) g tb D σ H1:=rfl
end
structure XCls (K:PySem.W.Frag) (C:Addr):Prop where
 cls:(PySem.W.clsIn K C).isSome=true
 ga:PySem.W.findIn K (.ref C) "__getattribute__"=some (some (.builtin "BaseException.__getattribute__"))
 gh:PySem.W.findIn K (.ref C) "__getattr__"=some none
 be:PySem.W.subIn K (.ref C) (.type "BaseException")=some true
 ca:PySem.W.findIn K (.ref C) "__class__"=some (some (.builtin "object.__class__"))
 cg:PySem.W.specialIn K (.builtin "object.__class__") "__get__"=some (some (.builtin "getset_descriptor.__get__"))
 ct:PySem.W.takesIn K (.builtin "object.__class__")=some true
 ob:PySem.W.mroIn K C (.type "object")=some true
section
variable {P:Program} {w:World} {H:Hp} {h h':Heap} {a:Addr} {o:HO}
theorem ObjOk.get (x:ObjOk P w H h a o):∃ob,h.get? a=some ob:=by
 cases o with
 | lst xs=>obtain⟨_,_,_,_,e⟩:=x;exact⟨_,e⟩
 | tup xs=>obtain⟨_,_,_,ob,e,_⟩:=x;exact⟨_,e⟩
 | dK kvs=>obtain⟨_,_,_,_,o,_,_,e,_⟩:=x;exact⟨_,e⟩
 | dT kvs=>obtain⟨_,_,_,_,o,_,_,e,_⟩:=x;exact⟨_,e⟩
 | set S n=>obtain⟨o,_,_,_,e,_⟩:=x;exact⟨_,e⟩
 | ins C dx fs=>obtain⟨_,_,_,e,_⟩:=x;exact⟨_,e⟩
 | own y=>exact x
 | xd fs=>obtain⟨_,⟨_,_,_,e,_⟩,_⟩:=x;exact⟨_,e⟩
 | rng lo hi=>obtain⟨_,_,_,e⟩:=x;exact⟨_,e⟩
 | frz ob u=>obtain⟨e,_⟩:=x;exact⟨_,e⟩
 | tbl ps=>exact⟨_,(show h.get? a=some _ from x)⟩
 | met f y=>exact⟨_,(show h.get? a=some _ from x)⟩
 | ext φ=>obtain⟨_,e,_⟩:=x;exact e
theorem HOk.freshN (x:HOk P w H h) (e:h.get? a=none):H a=none:=by
 cases q:H a with
 | none=>rfl
 | some u=>obtain⟨_,z⟩:=(x a u q).get;rw[e] at z;cases z
end
section
variable {X:Cx} {pins:List (Addr × Obj)} {σ:St} {H:Hp} {s:Shared} {h':Heap} {C:Addr} {x:Str} {p pos:Pos} {e:Expr} {es:List Expr} {t:TA}
theorem jlb {P:Program} {w:World} {h:Heap} {a:Addr} {φ:Obj->Prop} {ob:Obj} (e:h.get? a=some ob) (q:φ ob):ObjOk P w H h a (.ext fun h=>∃o,h.get? a=some o/\φ o) :=
 ⟨⟨ob,e,q⟩,⟨ob,e⟩,fun h1 h2 ⟨o,e1,q1⟩ k=>⟨o,k o e1,q1⟩⟩
end
section
open PySem.W PySem.Calls PySem.Builtin PySem.Builtin.ObjectAttr
variable {prog:Program} {w:World} {A:Around} {K:PySem.W.Frag} {x C:Addr} {ox:Obj} {od:Option Obj} {s:Shared} {name:Str} {tk:Tok} {v:Value} {R:Result->Shared->Prop}
end
section
variable {X:Cx}
theorem jff {K:PySem.W.Frag} {H:Hp}:∀bs:List Bool,RdsAll K H (bs.map V.bl) (bs.map PyData.bool)
 | []=>.nil
 | b::bs=>.cons (.bl b) (jff bs)
theorem jfg:∀bs:List Bool,(bs.map PyData.bool).all Shape.bool.has=true
 | []=>rfl
 | b::bs=>by rw[xaY,xby,jfg bs];rfl
theorem jhx:MtR X "list.count" (fun x xs H Q=>∃(a:Addr) (bs:List Bool) (k:Bool),x=.ref a/\xs=[.bl k]/\SqL X.K H a (bs.map V.bl)/\Q (.int (countIn (.bool k) (bs.map PyData.bool))) H):=by
 intro pins s σ H x xs v us Q I rx r h;obtain⟨a,bs,k,rfl,rfl,hs,q⟩:=h;cases (show v=Value.ref a from rx);obtain⟨u,rfl,r1⟩:=jeh r;cases r1;obtain⟨its,rv,pl,_⟩:=I.list hs;obtain⟨as,ra⟩:=RdsAll.reads I (jff bs) rv;exact count_list_bools pl.isList ra (jfg bs) ⟨V.int _,H,I.tok _,⟨_,rfl⟩,q⟩
end
theorem jhy {a:Expr} {f:Str} {jbj:List Expr} {pos:Pos} {env:Env}:starEach (.Attribute a f pos::jbj) env=(false,eval (.Attribute a f pos) env)::starEach jbj env:=by rfl
def TyAt (h:Heap) (x C:Addr):Prop:=∃ox,h.get? x=some ox/\ox.cls=.ref C
theorem TyAt.type {M:Model} {h:Heap} {x C:Addr} (I:TyAt h x C):PySem.W.Looks M h (typeOf (.ref x)) (.ref C):=by
 obtain⟨ox,e,c⟩:=I;exact c▸(PySem.W.Looks.ld e).andThen .now
section
open PySem.W PySem.Calls PySem.Builtin PySem.Builtin.ObjectAttr PySem.Builtin.Getset_descriptor
variable {prog:Program} {w:World} {A:Around} {E:Value->Shared->Prop} {K:PySem.W.Frag} {x C:Addr} {s:Shared} {name:Str} {tk:Tok} {v:Value}
theorem jgK {R:Result->Shared->Prop} {tp:Value} (X:K.In s.heap) (I:TyAt s.heap x C) (hm:mroIn K C (.type "object")=some true)
  (h:R (.ok (.ret (.ref C))) s):codeAny (model prog w) A (.call (.builtin "getset_descriptor.__get__") ⟨[.builtin "object.__class__",.ref x,tp],[]⟩) R s:=by
 obtain⟨hh,g,dr,t,os⟩:=s;have L0:=I.type (M:=model prog w);have L1:=looks_mroIn (M:=model prog w) X hm;refine codeAny_call_builtin KF.slot_gs.plain KF.entry_gs (KF.slot_gs.check _ _ _ _ _ _ _ _ KF.type_class (KF.args_gs _ _ _) ?_);unfold Builtin.«getset_descriptor.__get__» descrGet;rw[dga_obj];refine wpAny_bind (wpAny_pure ?_);unfold descrGetter descrCheckInstance descrNameAndClass isInstance;simp only[KF.owner_class]
 repeat lk
 refine⟨Code.quiet_builtin _ (by decide +kernel),codeAny_builtin KF.entry_class ?_⟩;unfold Builtin.«object.__class__» shownTypeOf
 repeat lk
 exact h
theorem jgL {M:Model} {h:Heap} (X:K.In h) (Z:XCls K C):Looks M h (find (.ref x) (.ref C) "__class__") (.bind (.builtin "getset_descriptor.__get__") (.builtin "object.__class__")):=by
 have L1:=looks_findIn (M:=M) X Z.ca;have L2:Looks M h (getOf (some (.builtin "object.__class__"))) (some (.builtin "getset_descriptor.__get__")):=looks_specialIn X Z.cg;have L3:=looks_takesIn (M:=M) X Z.ct;refine L1.andThen (L2.andThen ?_);exact (show Looks M h (dataDescriptor? (some (.builtin "object.__class__")) (some (.builtin "getset_descriptor.__get__"))) (some (.builtin "getset_descriptor.__get__",.builtin "object.__class__")) from L3.andThen .now).andThen (Looks.tag .now)
theorem jgM {M:Model} {nameV:Value} {Q:Unit->Shared->Prop} (X:K.In s.heap) (Z:XCls K C) (I:TyAt s.heap x C) (hq:Q () s) :
  wpAny M A (checkBuiltinCall "BaseException.__getattribute__" ⟨[.ref x,nameV],[]⟩) Q E s:=by
 have hk:builtinKind "BaseException.__getattribute__"=some .slot:=by decide +kernel
 have hsplit:splitId "BaseException.__getattribute__"=some ("BaseException","__getattribute__"):=by decide +kernel
 have ha:=PySem.F.args_bexc_ga (.ref x) nameV;have L0:=I.type (M:=M);have L1:=PySem.W.looks_subIn (M:=M) X Z.be;obtain⟨h,g,d,t,os⟩:=s;simp only[checkBuiltinCall,hk,hsplit];refine wpAny_bind ?_;unfold isInstance;refine wpAny_bind (L0.at (L1.at ?_))
 repeat (first | exact hq | wp_step)
theorem jgN {Q:Option Value->Shared->Prop} (X:K.In s.heap) (Z:XCls K C) (I:TyAt s.heap x C) (h:Q (some (.ref C)) { s with toks:=s.toks+1 }):wpAny (model prog w) A (getAttr? (.ref x) "__class__") Q E s:=by
 have FB:=PySem.F.excAttr_ValueError;have f3:=FB.ga.bind (.ref x);have hx2:(Value.builtin "BaseException.__getattribute__"==Value.builtin "object.__getattribute__")=false:=by decide +kernel
 have hx1:(onTheHeap (Value.ref C)&&Value.builtin "BaseException.__getattribute__"==Value.builtin "object.__getattribute__")=false:=by rw[hx2];rfl
 have L0:=I.type (M:=model prog w);have L1:=PySem.W.looks_findIn (M:=model prog w) X Z.ga;have L2:=PySem.W.looks_findIn (M:=model prog w) X Z.gh;have L3:=jgL (M:=model prog w) (x:=x) X Z;obtain⟨hh,g,d,t,os⟩:=s;unfold getAttr? getAttrBy? getAttrBy;refine wpAny_bind (wpAny_mkText (wpAny_bind (wpAny_attempt (wpAny_holding (wpAny_bind (L0.at (wpAny_bind (L1.at ?_))))))));show wpAny _ _ (if (onTheHeap (Value.ref C)&&Value.builtin "BaseException.__getattribute__"==Value.builtin "object.__getattribute__")=true then _ else _) _ _ _;rw[if_neg (by rw[hx1];exact xan)];unfold getAttrByItsOwn hookBefore;refine wpAny_bind ?_;show wpAny _ _ (typeLookup (.ref C) "__getattr__") _ _ _;refine L2.at ?_;refine wpAny_bind (wpAny_attempt (wpAny_holding ?_));unfold callGetattribute;rw[if_neg (by exact xan)];unfold boundAndCalled;refine wpAny_bind (wpAny_of_eq f3 ?_);refine wpAny_call (codeAny_call_builtin FB.ga.plain PySem.F.entry_bexc_ga (jgM (s:=⟨hh,g,d,t+1,os⟩) X Z I ?_));unfold Builtin.«object.__getattribute__»;refine wpAny_bind (wpAny_pure (wpAny_bind (wpAny_pure (wpAny_bind (L0.at (wpAny_bind (L3.at ?_)))))));show wpAny _ _ (holding [Value.builtin "object.__class__"] (call (.builtin "getset_descriptor.__get__") [.builtin "object.__class__",.ref x,.ref C]) >>= ret) _ _ _;exact wpAny_bind (wpAny_holding (wpAny_call (jgK (s:=⟨hh,g,d,t+1,os⟩) X I Z.ob (wpAny_pure (wpAny_pure (wpAny_pure h))))))
theorem jka (Z:XCls K C):PySem.W.KitX K (.ref x) (.ref C) (fun h=>TyAt h x C) where
 ty:=fun _ _ _ I=>I.type
 it:=fun _ _ X _=>by
  obtain⟨cdD,hcD⟩:=xa9.mp Z.cls;unfold PySem.W.clsIn at hcD;split at hcD
  ·rename_i c' d' cd' sl' ho
   intro A' Q' E' s' k q;unfold isType loadHead;exact wpAny_bind (wpAny_loadPart (k _ _ (X _ _ ho)) (wpAny_pure q))
  ·cases hcD
 ne:=fun h tp dd its n sl X htp=>by
  obtain⟨cdD,hcD⟩:=xa9.mp Z.cls;refine Bool.eq_false_iff.mpr fun q=>?_;have e:C=tp:=Value.ref.inj (beq_iff_eq.mp q);subst e;unfold PySem.W.clsIn at hcD;split at hcD
  ·rename_i c' d' cd' sl' ho
   have z:=(X _ _ ho).symm.trans htp;cases z
  ·cases hcD
 ca:=fun X I k=>jgN X Z I k
end
def jbX (a C:Addr):HO:=.ext fun h=>∃o,h.get? a=some o/\o.cls=.ref C
section
variable {X:Cx} {pins:List (Addr × Obj)} {σ:St} {H:Hp} {s:Shared} {a C:Addr}
theorem jdY (I:Inv X pins σ H s) (e:H a=some (jbX a C)):TyAt s.heap a C:=(show ObjOk X.prog X.w H s.heap a (jbX a C) from I.hok a _ e).1
theorem jfh:∀{cs:List Addr} {its:List Value},Vals (cs.map V.ref) its->its=cs.map Value.ref
  | [],_,.nil=>rfl
  | c :: cs, _, .cons r t => by
    cases r;rw[xaY,jfh t]
theorem jfi:jcQ X (.builtin "isinstance") (fun xs H Q=>∃a C c b,xs=[.ref a,c]/\H a=some (jbX a C)/\XCls X.K C /\
    ((∃ D, c = .ref D /\ PySem.W.kitOne X.K (.ref C) (.ref D) = some b) \/ (∃ T, c = .ty T /\ PySem.W.kitOne X.K (.ref C) (.type T) = some b) \/
      ∃(tp:Addr) (cs:List Addr),c=.ref tp/\H tp=some (.tup (cs.map V.ref))/\PySem.W.kitAny X.K (.ref C) (cs.map Value.ref)=some b)/\Q (.bl b) H):=by
  intro pins s σ H xs us Q I r h;obtain⟨a,C,c,b,rfl,ie,Z,e,q⟩:=h;obtain⟨u,w',rfl,r1,r2⟩:=jiq r;cases (show u=Value.ref a from r1);rcases e with ⟨D,rfl,e⟩ | ⟨T,rfl,e⟩ | ⟨tp,cs,rfl,et,e⟩
  . cases r2
    exact PySem.W.kia_one (jka Z) I.kIn (jdY I ie) e (fun z=>nomatch z) fun tk=>⟨.bl b,H,I.tok tk,rfl,q⟩
  . cases r2
    exact PySem.W.kia_one (jka Z) I.kIn (jdY I ie) e (fun z=>nomatch z) fun tk=>⟨.bl b,H,I.tok tk,rfl,q⟩
  . cases (show w'=Value.ref tp from r2)
    obtain⟨_,its,rv,⟨cl,dd,da,sl⟩,ho,hc,n,hd⟩:=(show ObjOk X.prog X.w H s.heap tp (.tup (cs.map V.ref)) from I.hok tp _ et);simp only at hc hd;subst hc hd;have ei:=jfh rv;subst ei;exact PySem.W.kia_tup (jka Z) I.kIn (jdY I ie) ho e (fun z=>nomatch z) fun tk=>⟨.bl b,H,I.tok tk,rfl,q⟩
theorem jbu {K:PySem.W.Frag} (hK:X.K=K):jcQ X (.builtin "isinstance") (fun xs H Q=>∃a C c b,xs=[.ref a,c]/\H a=some (jbX a C)/\XCls K C /\
    ((∃ D, c = .ref D /\ PySem.W.kitOne K (.ref C) (.ref D) = some b) \/ (∃ T, c = .ty T /\ PySem.W.kitOne K (.ref C) (.type T) = some b) \/
      ∃(tp:Addr) (cs:List Addr),c=.ref tp/\H tp=some (.tup (cs.map V.ref))/\PySem.W.kitAny K (.ref C) (cs.map Value.ref)=some b)/\Q (.bl b) H):=by
  subst hK;exact jfi
theorem Inv.track {o:HO} (I:Inv X pins σ H s) (hn:H a=none) (new:X.s₀.heap.get? a=none) (hl:a≠X.env.locals) (hc:∀x c,X.env.cells.lookup x=some c->c≠a) (hp:∀p∈X.pn++pins,p.1≠a)
  (ok:ObjOk X.prog X.w (upd H a o) s.heap a o):Inv X pins σ (upd H a o) s:=by
 have up:∀b u,H b=some u->upd H a o b=some u:=fun b u q=>by rw[jat (jaD q hn)];exact q
 refine⟨I.ok,I.os,I.bare,⟨I.base.keep,I.base.slot,fun b v q n hx=>?_,I.base.there,fun b xs q=>up _ _ (I.base.tups b xs q),fun b u xs q=>up _ _ (I.base.frzs b u xs q),fun b ps q=>?_⟩,I.loc,I.cell,by rw[jat (Ne.symm hl)];exact I.free,
  fun x c q=>by rw[jat (hc x c q)];exact I.freeC x c q,fun p q=>?_,fun b u q=>?_,I.len⟩
 ·rw[jat (fun z=>by rw[z,new] at q;cases q)];exact I.base.free b v q n hx
 ·obtain⟨m,z⟩:=I.base.tbls b ps q;exact⟨m,up _ _ z⟩
 ·obtain⟨h1,h2,h3⟩:=I.pin p q;exact⟨h1,by rw[jat (hp p q)];exact h2,h3⟩
 ·by_cases hb:b=a
  ·subst hb;rw[upd_same] at q;cases q;exact ok
  ·rw[jat hb] at q;exact (I.hok b u q).stay (fun c v _ r=>r) (fun c r=>up _ _ r) fun c xs r=>up _ _ r
end
section
variable {X:Cx} {pins:List (Addr × Obj)} {σ:St} {H:Hp} {s:Shared}
theorem jeJ {M:Model} {A:Around} {E:Value->Shared->Prop} {i:Nat} {n:Str} {pos:Pos} {Q:Unit->Shared->Prop} (I:Inv X pins σ H s) (hN:X.N.Nodup) (hi:X.N[i]?=some n) (hk:X.env.kindOf n=some .local)
  (h:∀s',Inv X pins (σ.set i none) H s'->Q () s'):wpAny M A (do bindName X.env n .none;unbindBehindTheSuite X.env n pos) Q E s:=by
 obtain⟨m,hn,hl⟩:=id I.loc;have hcls:(X.env.scope.kind==.class||(X.env.scope.kind==.module&&X.env.locals != X.env.globals))=false:=by rw[I.ok.kind];rfl
 have hiσ:i<σ.length:=by rw[I.len];exact (xai.mp hi).1
 have cne:=I.cne;refine wpAny_nameGoes_keeps hk hn hcls fun h' v hn' hs=>?_;refine h _ ⟨I.ok,I.os,I.bare,⟨fun b o e n hb hx=>?_,fun b o e n hb hx=>?_,I.base.free,fun b o e hx=>?_,I.base.tups,I.base.frzs,I.base.tbls⟩,⟨_,hn',fun j y v' e1 e2 e3=>?_⟩,fun y c e=>?_,I.free,I.freeC,fun p hp=>?_,fun b u e=>?_,by simpa using I.len⟩
 ·exact (hs.2 b (xas (xah (Heap.lt_size e) I.ok.above))).trans (I.base.keep b o e n hb hx)
 ·obtain⟨sl,e1⟩:=I.base.slot b o e n hb hx;exact⟨sl,(hs.2 b (xas (xah (Heap.lt_size e) I.ok.above))).trans e1⟩
 ·obtain⟨o',e1⟩:=I.base.there b o e hx;exact⟨o',(hs.2 b (xas (xah (Heap.lt_size e) I.ok.above))).trans e1⟩
 ·by_cases hj:j=i
  ·subst hj;rw[xbg hiσ] at e2;cases e2
  ·rw[xbo (Ne.symm hj)] at e2;obtain⟨u',r',q⟩:=hl j y v' e1 e2 e3;refine⟨u',r',?_⟩;rcases q with ⟨k,e⟩ | ⟨k,c,e,z⟩
   ·refine .inl ⟨k,?_⟩;have:y≠n:=fun e=>hj (jex hN e1 (e▸hi));simp [this,e]
   ·exact .inr ⟨k,c,e,z.sameBut hs (cne y c e)⟩
 ·obtain⟨w',z⟩:=I.cell y c e;exact⟨w',z.sameBut hs (cne y c e)⟩
 ·obtain⟨e,n,ne,nf,d⟩:=I.pin p hp;exact⟨(hs.2 p.1 ne).trans e,n,ne,nf,d⟩
 ·have nl:∀c v,H c=some v->c≠X.env.locals:=fun c v q z=>by rw[z,I.free] at q;cases q
  refine (I.hok b u e).stay (fun c v hc r=>(hs.2 c ?_).trans r) (fun _ q=>q) fun _ _ q=>q;rcases hc with z | z
  ·rw[z];exact nl b u e
  ·exact nl c _ z
end
def Ends.gone (D:Ends) (i:Nat):Ends:={ nx:=fun σ H=>D.nx (σ.set i none) H,bk:=fun σ H=>D.bk (σ.set i none) H,ct:=fun σ H=>D.ct (σ.set i none) H,rt:=D.rt }
section
variable {X:Cx}
theorem jiF {c n:Str} {D₀:Addr} {i:Nat} {body:List Stmt} {b₀:Stmt} {suite:List Stmt} {tb:TSX} {th:TS} {np hpos pos:Pos} (T:Top1 X) (hg:Gl X c) (hm:X.mg c=some (.ref D₀)) (hN:X.N.Nodup) (hi:X.N[i]?=some n)
  (hkd:X.env.kindOf n=some .local) (hx:Loc X.env.scope n) (hb:PSX X body tb) (hs:∀e,PSs (X.caught e) (b₀::suite) th) (hdb:(c==("__debug__":Str))=false:=by decide)
  (hf:X.fn n=true\/X.env.scope.names.lookup n=some .local:=by first | exact .inl rfl | exact .inr rfl | assumption) :
  PS X (.Try body [.ExceptHandler (some (.Name c np)) (some n) (b₀::suite) hpos] [] [] pos) (fun D σ H=>tb D (fun σ1 cls _ H1=>∃C,cls=.ref C/\PySem.W.exmOne X.K (.ref C) (.ref D₀)=some true /\
   ∀ea,H1 ea=none->th (D.gone i) (σ1.set i (some (.ref ea))) (upd H1 ea (jbX ea C))) σ H):=by
 intro pins s σ H D I h;refine wpAny_Try_except (wpAny_mono (hb pins s σ H D _ I h) (fun f s1 q=>?_) fun ex s' ⟨σ1,H1,s1,I1,hx'⟩=>?_)
 ·cases f with
  | next=>exact wpAny_execs_nil q
  | brk=>exact q
  | cont=>exact q
  | ret u=>exact q
 ·obtain⟨ea,C',a0,H',Bh,pd,rfl,fl,os,ba,un,hk,kb,tbb,dk,C,ec,em,q⟩:=hx';cases ec;have hfr:X.A.frames=some (X.env::X.outer):=by rw[<- T.stk];exact I1.ok.frames
  have ff:=fl.2.2.1;have hB:Bh.get? ea=none:=fl.2.1;have dat:∀h l,Heap.FlyingW Bh l ea (.ref C') a0 h->∃oe vs,h.get? ea=some oe/\oe.cls=.ref C'/\oe.data=.fields vs:=fun h l z=>by
   obtain⟨_,_,_,oe,vs,_,_,_,he,hc,hd,_⟩:=z;exact⟨oe,vs,he,hc.1,hd⟩
  have nofr:ea∉frs X.stack:=fun hb=>by
   obtain⟨_,o,e1,nf⟩:=ff.mem hb;obtain⟨oe,vs,e2,_,hd⟩:=dat _ _ fl;rw[e1] at e2;cases e2;exact nf vs hd
  have s1n:s1.heap.get? ea=none:=by
   cases z:s1.heap.get? ea with
   | none=>rfl
   | some o=>obtain⟨o',e⟩:=tbb ea o z nofr;rw[hB] at e;cases e
  have nx:∀b:Addr,b∉X.ex:=fun b z=>by rw[T.ex] at z;cases z
  have s0n:X.s₀.heap.get? ea=none:=by
   cases z:X.s₀.heap.get? ea with
   | none=>rfl
   | some o=>obtain⟨o',e⟩:=I1.base.there ea o z (nx ea);rw[s1n] at e;cases e
  have hn:H' ea=none:=hk.freshN hB;rw[T.stk] at fl;refine wpAny_looks_onW hfr T.frm fl fun h₄ held₄ sm₄=>?_;refine wpAny_landsW held₄ fun h₅ fl₅ sm₅'=>?_;have sm₅:=sm₄.trans sm₅';have I5:Inv X pins σ1 H' { s' with heap:=h₅ }:=I1.landed T os ba un hk kb tbb fl₅.1 sm₅ ff;obtain⟨ob,hob,hobc⟩:=fl₅.there;refine wpAny_handleBy_cons (codeAny_handlers_test (jdf (X:=X.caught (.ref ea)) (I5.caught (.ref ea)) hg hm ?_ hdb)) (by intro q;cases q);have LT:PySem.W.Looks (model X.prog X.w) h₅ (typeOf (.ref ea)) (.ref C'):=TyAt.type ⟨ob,hob,hobc⟩;refine PySem.W.Looks.here (s:={ s' with heap:=h₅ }) (PySem.W.exm_one I5.kIn LT em) ?_;refine codeAny_handlers_suite_as ?_;refine lands_againW fl₅ fun h₆ fl₆ sm₆=>?_;have I6:Inv X pins σ1 H' { s' with heap:=h₆ }:=I1.landed T os ba un hk kb tbb fl₆.1 (sm₅.trans sm₆) ff;obtain⟨oe,vs,he,hec,hed⟩:=dat _ _ fl₆;have I7:Inv X pins σ1 (upd H' ea (jbX ea C')) { s' with heap:=h₆ }:=I6.track hn s0n (fun z=>nofr (T.mem.mpr (.inl z))) (fun y c e z=>by
    obtain⟨v,o,e1,e2⟩:=I6.cell y c e;rw[z] at e1;rw[he] at e1;cases e1;rw[hed] at e2;cases e2) (fun p hp z=>by
    obtain⟨e1,_⟩:=I1.pin p hp;rw[z,s1n] at e1;cases e1) (jlb (φ:=fun o=>o.cls=.ref C') he hec)
  refine jcz (X:=X.caught (.ref ea)) (I7.caught (.ref ea)) hN hi hx (v:=.ref ea) rfl (fun s8 I8=>?_) hf;refine wpAny_mono (hs (.ref ea) pins s8 _ _ (D.gone i) I8 (q ea hn)) (fun f s9 q9=>?_) fun _ _ z=>z.elim;have q9:=SP.uncaught I6.ok q9;cases f with
  | next=>obtain⟨a,b,J,z⟩:=q9;exact jeJ J hN hi hkd fun s' J'=>⟨_,b,J',z⟩
  | brk=>obtain⟨a,b,J,z⟩:=q9;exact jeJ J hN hi hkd fun s' J'=>⟨_,b,J',z⟩
  | cont=>obtain⟨a,b,J,z⟩:=q9;exact jeJ J hN hi hkd fun s' J'=>⟨_,b,J',z⟩
  | ret u=>obtain⟨v,a,b,J,r,z⟩:=q9;exact jeJ J hN hi hkd fun s' J'=>⟨v,_,b,J',r,z⟩
end
def del (H:Hp) (q:Addr):Hp:=fun b=>if b=q then none else H b
@[elab_as_elim] theorem ja4 {C:Hp->Prop} {H:Hp} {p:Addr} {o:HO} (hp:H p=none) (k:∀J,Same H J->J p=some o->C J):C (upd H p o):=k _ (Same.new hp o) upd_same
theorem lt3 {i:Nat} (h:i<3):i=0\/i=1\/i=2:=by omega
section
variable {X:Cx}
def jhz (K:PySem.W.Frag):V->List V->Hp->VK->Prop:=fun x ys H Q=>∃(p:Addr) (xs:List V) (y:V) (dy:PyData),x=.ref p/\ys=[y]/\SqL K H p xs/\Rds K H y dy/\PyData.canLay0 dy=true/\dy.depth<=8/\PyData.eqv dy dy=true/\(∀v∈xs,∃d,Rds K H v d/\PyData.canLay0 d=true/\d.depth<=8)/\(∃v∈xs,Rds K H v dy)/\xs.length<1000/\∀j:Nat,j<xs.length->Q (.int j) H
theorem jhA (hu:X.A.units+64<cLine):MtR X "list.index" (jhz X.K):=by
 intro pins s σ H x xs v us Q I rx r h;obtain⟨p,zs,y,dy,rfl,rfl,hq,hdy,cy,dpy,ey,hs,⟨v0,hv0,hd0⟩,hn,q⟩:=h;cases (show v=Value.ref p from rx);obtain⟨u,rfl,r1⟩:=jeh r;obtain⟨its,rv,pl,hz⟩:=I.list hq;obtain⟨as,rdy⟩:=hdy.reads I r1;have hl:=rv.length;obtain⟨⟨cls,dd,data,sl⟩,ho,hc,n,hd⟩:=id pl.isList;simp only at hc hd;subst hc hd;have eqs:∀(A:Around),A.units<=X.A.units+8->∀w∈its,(∃b,SeqAt.EqAt A s w u b):=fun A hA w hw=>by
  obtain⟨i,hi⟩:=xa3 hw;have hi2:i<zs.length:=by have:=(xai.mp hi).1;omega
  obtain⟨w',hw',rw'⟩:=rv.get (xae hi2);rw[hi] at hw';cases hw';obtain⟨d,hd,cd,dd⟩:=hs _ (xbm hi2);obtain⟨bs,rd⟩:=hd.reads I rw';exact⟨_,SeqAt.eqAt_reads d dy _ s w u bs as rd rdy cd cy (by
   have:=Nat.min_le_left d.depth dy.depth;omega)⟩
 have hits:∀(A:Around),A.units<=X.A.units+8->∃w∈its,SeqAt.EqAt A s w u true:=fun A hA=>by
  obtain⟨i,hi2,e⟩:=List.mem_iff_getElem.mp hv0;obtain⟨w,hw,rw'⟩:=rv.get (xae hi2);rw[e] at rw';obtain⟨bs,rd⟩:=hd0.reads I rw';refine⟨w,xay hw,?_⟩;have z:=SeqAt.eqAt_reads dy dy A s w u bs as rd rdy cy cy (by
   have:=Nat.min_le_left dy.depth dy.depth;omega)
  rw[ey] at z;exact z
 have u1:X.A.in1.units=X.A.units+1:=rfl;have dec:∀w,Decidable (SeqAt.EqAt X.A.in1 s w u true):=fun w=>Classical.propDecidable _
 let e:Value->Bool:=fun w=>decide (SeqAt.EqAt X.A.in1 s w u true)
 have he:∀w∈its,SeqAt.EqAt X.A.in1 s w u (e w):=fun w hw=>by
  obtain⟨b,hb⟩:=eqs X.A.in1 (by omega) w hw;by_cases c:SeqAt.EqAt X.A.in1 s w u true
  ·have:e w=true:=decide_eq_true c;rw[this];exact c
  ·have:e w=false:=decide_eq_false c;rw[this];cases b with
   | true=>exact (c hb).elim
   | false=>exact hb
 obtain⟨w0,hw0,hit0⟩:=hits X.A.in1 (by omega);have e0:e w0=true:=decide_eq_true hit0;have hj:its.findIdx e<its.length:=xa1 ⟨w0,hw0,e0⟩;refine call_meets F.slot_list_index ⟨_,ho,rfl⟩ F.entry_list_index (F.args_list_index_2 _ _) (SeqAt.list_indexAt p its.toArray n dd sl u e (its.findIdx e) (by simpa using hj) (by omega) ?_ ?_) ⟨ho,fun w hw=>he w (by simpa using hw),⟨.int _,H,I.tok _,⟨_,rfl⟩,q _ (by omega)⟩⟩
 ·simpa using List.findIdx_getElem (w:=hj)
 ·intro m hm hlt;have:=List.not_of_lt_findIdx hlt;simpa using this
end
section
variable {prog:Program} {w:World} {A:Around} {R:Result->Shared->Prop} {it Z:Addr} {fp wr:List Addr} {n:Nat} {P:Nat->Value->Prop} {St:Nat->Heap->Prop} {G:Heap->Prop}
def Stay (wr:List Addr) (Z:Addr) (h h':Heap):Prop:=∀b o,b∉wr->b≠Z->h.get? b=some o->h'.get? b=some o
theorem Stay.trans {h h' h'':Heap} (a:Stay wr Z h h') (b:Stay wr Z h' h''):Stay wr Z h h'':=fun c o x y e=>b c o x y (a c o x y e)
theorem Stay.set {h:Heap} {g:Obj->Obj}:Stay wr Z h (h.update Z g):=fun _ _ _ y e=>(Heap.get?_update_other _ _ (Ne.symm y)).trans e
def jlc (v:Value) (c:Nat):Obj:={ cls:=.type "list",dict:=none,data:=.seq #[v,v] c,slots:=#[] }
structure MinUse (prog:Program) (w:World) (A:Around) (wr:List Addr) (Z:Addr) (P:Nat->Value->Prop) (G:Heap->Prop):Prop where
 keep:∀h h',G h->Stay wr Z h h'->G h'
 cmp:∀(u v:Value) (s:Shared) (Q:Value->Shared->Prop) (E:Value->Shared->Prop),(∃i,P i u)->(∃j,P j v)->G s.heap->(∀k:Bool,Q (.bool k) s)->wpAny (model prog w) A (richCompare .Lt u v) Q E s
theorem minW (W:Walks prog w A.in1 it fp wr n P St) (M:MinUse prog w A.in1 wr Z P G) (off:Z∉fp):∀(left:Nat) (s:Shared) (best:Value) (c:Nat),left<n->St (n-left) s.heap->(∃i,P i best)->G s.heap->s.heap.get? Z=some (jlc best c) ->
    (∀v h tk,(∃i,P i v)->Stay wr Z s.heap h->R (.ok (.ret v)) { s with heap:=h,toks:=tk })->codeAny (model prog w) A (.builtin "min.loop" ⟨[.ref it,.none,.ref Z],[]⟩) R s:=by
  have zw:Z∉wr:=fun h=>off (W.sub _ h);have fr:∀{i:Nat} {h:Heap} {g:Obj->Obj},St i h->St i (h.update Z g):=fun {i h g} st=>W.frame _ _ _ st fun b bf o e=>(Heap.get?_update_other _ _ (fun x:Z=b=>off (x▸bf))).trans e;have word:(toString "min"++toString ".loop":String)="min.loop":=by decide
  intro left;induction left with
  | zero =>
    intro s best c _ st pb gs hZ q;refine codeAny_builtin F.entry_min_loop (Around.under_plainId F.plain_min_loop _▸?_);refine wpAny_bind (m:=seqItems? (.ref Z)) (wpAny_seqItems hZ rfl (wpAny_bind (m:=tryCatch (pyNext (.ref it)) _) (wpAny_tryCatch (W.done s _ _ st fun h1 t1 k1=>?_))));refine wpAny_bind (m:=updateSeq Z fun _=>#[]) (wpAny_updateSeq (k1 Z _ zw hZ) rfl (wpAny_bind (wpAny_letGo (wpAny_pure ?_))));exact q best _ t1 pb (Stay.trans (fun b o x _ e=>k1 b o x e) Stay.set)
  | succ left ih =>
    intro s best c lt st pb gs hZ q;have en:n-(left+1)+1=n-left:=by omega
    refine codeAny_builtin F.entry_min_loop (Around.under_plainId F.plain_min_loop _▸?_);refine wpAny_bind (m:=seqItems? (.ref Z)) (wpAny_seqItems hZ rfl (wpAny_bind (m:=tryCatch (pyNext (.ref it)) _) (wpAny_tryCatch (W.item (n-(left+1)) s _ _ (by omega) st fun v h1 t1 pv st1 k1=>?_))));have y1:Stay wr Z s.heap h1:=fun b o x _ e=>k1 b o x e;have g1:=M.keep _ _ gs y1;have z1:=k1 Z _ zw hZ;rw[en] at st1;refine wpAny_bind (m:=tryCatch (holding [v,v] (richCompare .Lt v best >>= _)) _) (wpAny_tryCatch (wpAny_holding (wpAny_bind (M.cmp v best _ _ _ ⟨_,pv⟩ pb g1 fun less=>?_))));refine wpAny_bind (wpAny_holding (wpAny_truthy_bool (wpAny_bind (wpAny_letGo (wpAny_pure ?_)))));cases less with
    | true =>
      simp only[if_true];refine wpAny_bind (wpAny_updateSeq z1 rfl (wpAny_bind (wpAny_letGo ?_)));rw[word];exact wpAny_pure ⟨plainId_quiet F.plain_min_loop _,ih _ v _ (by omega) (fr st1) ⟨_,pv⟩ (M.keep _ _ g1 Stay.set) (Heap.get?_update_self _ z1 rfl) fun u h2 t2 pu y2=>q u h2 t2 pu (y1.trans (Stay.set.trans y2))⟩
    | false =>
      simp only[if_false,Bool.false_eq_true];refine wpAny_bind (wpAny_letGo ?_);rw[word];exact wpAny_pure ⟨plainId_quiet F.plain_min_loop _,ih _ best c (by omega) st1 pb g1 z1 fun u h2 t2 pu y2=>q u h2 t2 pu (y1.trans y2)⟩
theorem minOf {E:Value->Shared->Prop} {s:Shared} {l:Addr} {xs:Array Value} {Q:Value->Shared->Prop} (hh:A.handled=none) (hl:s.heap.IsList l xs) (hn:0<xs.size) (G:Heap->Prop) (gs:G s.heap)
  (keep:∀h h',G h->(∀b o,b<s.heap.objs.size->h.get? b=some o->h'.get? b=some o)->G h')
  (cmp:∀(u v:Value) (s:Shared) (Q:Value->Shared->Prop) (E:Value->Shared->Prop),u∈xs->v∈xs->G s.heap->(∀k:Bool,Q (.bool k) s)->wpAny (model prog w) A.in1 (richCompare .Lt u v) Q E s)
  (q:∀v h tk,v∈xs->(∀b o,s.heap.get? b=some o->h.get? b=some o)->Q v { s with heap:=h,toks:=tk }):wpAny (model prog w) A (call (.builtin "min") [.ref l]) Q E s:=by
 have lt:l<s.heap.objs.size:=by obtain⟨o,ho,_⟩:=hl;exact Heap.lt_size ho
 have word:(toString "min"++toString ".loop":String)="min.loop":=by decide
 have W:=Walks.list (prog:=prog) (w:=w) (A:=A.in1) hh s.heap.objs.size l (xas lt) xs;refine call_function_tree F.kind_min F.plain_min F.entry_min (F.args_min1 _) (wpAny_bind (m:=Builtin.Builtins.bindParams "min" ["key","default"] 0 ⟨[],[]⟩) (wpAny_of_eq (a:=[none,none]) rfl (wpAny_bind (wpAny_pure (wpAny_bind (wpAny_pyIter_list hl (wpAny_bind (wpAny_newObj_type ?_))))))));rw[word];obtain⟨h0,e0⟩:∃h0,h0=s.heap.push { cls:=.type "list_iterator",data:=.fields #[.ref l,.int 0 0] }:=⟨_,rfl⟩;obtain⟨h1,e1⟩:∃h1,h1=h0.push { cls:=.type "list",data:=.seq #[] }:=⟨_,rfl⟩;have z0:h0.objs.size=s.heap.objs.size+1:=by rw[e0];exact Heap.size_push ..
 have up:∀b o,s.heap.get? b=some o->h1.get? b=some o:=fun b o e=>by rw[e1];exact Heap.get?_push_of_some _ (by rw[e0];exact Heap.get?_push_of_some _ e)
 have far:∀{b:Nat},b<s.heap.objs.size->b∉[s.heap.objs.size]/\b≠h0.objs.size:=fun {b} hb=>⟨fun m=>xas hb (xao.mp m),xas (Nat.lt_of_lt_of_eq (xaU hb) z0.symm)⟩;have off:h0.objs.size∉[s.heap.objs.size,l]:=fun m=>by
  rcases xaf.mp m with e | e
  ·exact Nat.succ_ne_self _ (z0.symm.trans e)
  ·exact Nat.ne_of_gt (xaU lt) (z0.symm.trans (xao.mp e))
 have M:MinUse prog w A.in1 [s.heap.objs.size] h0.objs.size (fun i v=>xs[i]?=some v) G:=⟨fun h h' g y=>keep h h' g fun b o hb e=>y b o (far hb).1 (far hb).2 e,fun u v s' Q' E' ⟨i,hi⟩ ⟨j,hj⟩ g q'=>cmp u v s' Q' E' (Array.mem_of_getElem? hi) (Array.mem_of_getElem? hj) g q'⟩;have cell:h1.get? h0.objs.size=some { cls:=.type "list",dict:=none,data:=.seq #[] 0,slots:=#[] }:=by rw[e1];exact Heap.get?_push_size _ rfl
 have st:h1.IsListIter s.heap.objs.size l 0/\h1.IsList l xs:=⟨⟨_,by rw[e1];exact Heap.get?_push_of_some _ (by rw[e0];exact Heap.get?_push_size _ rfl),rfl,rfl⟩,by rw[e1,e0];exact (hl.push _).push _⟩;have zw:h0.objs.size∉[s.heap.objs.size]:=fun m=>off (W.sub _ m);rw[<- e0,<- e1];refine wpAny_pure ⟨plainId_quiet F.plain_min_loop _,codeAny_builtin F.entry_min_loop (Around.under_plainId F.plain_min_loop _▸?_)⟩;refine wpAny_bind (m:=seqItems? (.ref h0.objs.size)) (wpAny_seqItems cell rfl (wpAny_bind (m:=tryCatch (pyNext (.ref s.heap.objs.size)) _) (wpAny_tryCatch (W.item 0 _ _ _ hn st fun v h2 t2 pv st2 k2=>?_))));have z2:=k2 _ _ zw cell;refine wpAny_bind (m:=updateSeq h0.objs.size fun _=>#[v,v]) (wpAny_updateSeq z2 rfl ?_);rw[word];have y2:Stay [s.heap.objs.size] h0.objs.size h1 h2:=fun b o x _ e=>k2 b o x e;refine wpAny_pure ⟨plainId_quiet F.plain_min_loop _,minW W M off (xs.size-1) _ v _ (by omega) ?_ ⟨_,pv⟩ (M.keep _ _ (M.keep _ _ (keep _ _ gs fun b o _ e=>up b o e) y2) Stay.set) (Heap.get?_update_self _ z2 rfl) fun u h3 t3 ⟨i,pu⟩ y3=>?_⟩
 ·rw[show xs.size-(xs.size-1)=0+1 by omega];exact W.frame _ _ _ st2 fun b bf o e=>(Heap.get?_update_other _ _ (fun x:h0.objs.size=b=>off (x▸bf))).trans e
 ·refine q u h3 t3 (Array.mem_of_getElem? pu) fun b o e=>?_;have f:=far (Heap.lt_size e);exact (y2.trans (Stay.set.trans y3)) b o f.1 f.2 (up b o e)
end
section
open PySem.AutoSeq1 (wpAny_loadPart')
open PySem.MeetsSeq3 (plain_eq_loop entry_eq_loop)
def jiG (xs:Array Value):Prop:=∀j (h:j<xs.size),∃a t,xs[j]=.int a t
def jld (dd:Option Addr) (sl:Array (Option Value)) (xs:Array Value) (n:Nat):Obj:={ cls:=.type "list",dict:=dd,data:=.seq xs n,slots:=sl }
theorem ltGo {l m:Addr} {xs ys:Array Value} {n1 n2:Nat} {d1 d2:Option Addr} {o1 o2:Array (Option Value)} (sz:xs.size=ys.size) (ix:jiG xs) (iy:jiG ys) (left:Nat):∀i:Nat,xs.size=i+left ->
    Meets (Builtin.«list.__eq__.loop» ⟨[.ref l,.ref m,rawInt i,rawInt 0],[]⟩) (fun _ R s=>s.heap.get? l=some (jld d1 o1 xs n1)/\s.heap.get? m=some (jld d2 o2 ys n2)/\∀k:Bool,R (.ok (.ret (.bool k))) s):=by
  induction left with
  | zero =>
    rintro i e prog w A R ⟨hp,g,d,tk,os⟩ ⟨a,b,q⟩
    wp_walk using wpAny_loadPart' a,wpAny_loadPart' b
    rw[show xs[((i:Nat):Int).toNat]?=none by simp;omega]
    wp_walk using wpAny_loadPart' a,wpAny_loadPart' b
    exact q _
  | succ left ih =>
    rintro i e prog w A R ⟨hp,g,d,tk,os⟩ ⟨a,b,q⟩;have lx:i<xs.size:=by omega
    have ly:i<ys.size:=by omega
    obtain⟨u,t,eu⟩:=ix i lx;obtain⟨v,t',ev⟩:=iy i ly;have e1:xs[((i:Nat):Int).toNat]?=some (.int u t):=by simp [lx,eu]
    have e2:ys[((i:Nat):Int).toNat]?=some (.int v t'):=by simp [ly,ev]
    wp_walk using wpAny_loadPart' a,wpAny_loadPart' b
    rw[e1,e2];obtain⟨k,hk,_⟩:=HT.eqAt_int A.in1 ⟨hp,g,d,tk,os⟩ u t v t';refine wpAny_bind (hk prog w _ _ ?_);cases k with
    | true =>
      wp_walk
      refine⟨plainId_quiet plain_eq_loop _,codeAny_builtin entry_eq_loop (Around.under_plainId plain_eq_loop _▸?_)⟩;rw[show ((i:Int)+1)=((i+1:Nat):Int) by omega];exact ih (i+1) (by omega) prog w A R _ ⟨a,b,q⟩
    | false =>
      wp_walk using wpAny_loadPart' a,wpAny_loadPart' b
      rw[e1,e2];have less:=HT.rcLt_int A.in1 ⟨hp,g,d,tk,os⟩ u t v t' prog w
      wp_walk using less
      exact q _
theorem ltLst {l m:Addr} {xs ys:Array Value} {n1 n2:Nat} {d1 d2:Option Addr} {o1 o2:Array (Option Value)} (sz:xs.size=ys.size) (ix:jiG xs) (iy:jiG ys) :
  Meets (Builtin.«list.__lt__» ⟨[.ref l,.ref m],[]⟩) (fun _ R s=>s.heap.get? l=some (jld d1 o1 xs n1)/\s.heap.get? m=some (jld d2 o2 ys n2)/\∀k:Bool,R (.ok (.ret (.bool k))) s):=by
 rintro prog w A R ⟨hp,g,d,tk,os⟩ ⟨a,b,q⟩;have sub:=AutoSeq1.sub_list_list;unfold jld at a b
 wp_walk using wpAny_loadPart' a,wpAny_loadPart' b
 exact⟨plainId_quiet plain_eq_loop _,codeAny_builtin entry_eq_loop (Around.under_plainId plain_eq_loop _▸ltGo sz ix iy xs.size 0 (by omega) prog w A R _ ⟨a,b,q⟩)⟩
theorem jhB {prog:Program} {w:World} {A:Around} {E:Value->Shared->Prop} {s:Shared} {l m:Addr} {xs ys:Array Value} {Q:Value->Shared->Prop} (hl:s.heap.IsList l xs) (hm:s.heap.IsList m ys) (sz:xs.size=ys.size) (ix:jiG xs) (iy:jiG ys) (hu:A.units<cLine) (q:∀k:Bool,Q (.bool k) s):wpAny (model prog w) A (compareOp .Lt (.ref l) (.ref m)) Q E s:=by
 obtain⟨⟨c1,d1,a1,o1⟩,h1,e1,n,f1⟩:=id hl;obtain⟨⟨c2,d2,a2,o2⟩,h2,e2,k,f2⟩:=id hm;cases e1;cases e2;cases f1;cases f2;exact richCompare_meets_room (op:=.Lt) ⟨_,h1,rfl⟩ ⟨_,h2,rfl⟩ F.slot_list_lt F.entry_list_lt (F.args_list_lt_2 _ _) (ltLst sz ix iy) ⟨h1,h2,fun k=>⟨(fun x=>nomatch x),q k⟩⟩ hu
theorem jfJ {vs:List Value} {ns:List Int} (h:IntsAre vs ns):jiG vs.toArray:=by
  induction h with
  | nil=>exact fun j q=>absurd q (by simp)
  | cons a t _ ih =>
    intro j q;cases j with
    | zero=>exact⟨_,_,rfl⟩
    | succ j =>
      obtain⟨a',t',e⟩:=ih j (by simpa using q);exact⟨a',t',by simpa using e⟩
end
section
variable {X:Cx}
def rLtLQ (K:PySem.W.Frag):R2:=fun x y H Q=>∃(a b:Addr) (ns ms:List Int),x=.ref a/\y=.ref b/\SqL K H a (ns.map V.int)/\SqL K H b (ms.map V.int)/\ns.length=ms.length/\∀k,Q (.bl k) H
theorem jkb (hu:X.A.units<cLine):OpR X (compareOp .Lt) (rLtLQ X.K):=by
 rintro pins s σ H x y v u Q I rx ry ⟨a,b,ns,ms,rfl,rfl,ha,hb,hl,q⟩;cases rx;cases ry;obtain⟨xs,r1,p1,_⟩:=I.list ha;obtain⟨ys,r2,p2,_⟩:=I.list hb;have i1:IntsAre xs ns:=jdi r1;have i2:IntsAre ys ms:=jdi r2;have z1:=i1.length;have z2:=i2.length;exact jhB p1.isList p2.isList (by simp;omega) (jfJ i1) (jfJ i2) hu fun k=>⟨.bl k,H,I,rfl,q k⟩
def jle (K:PySem.W.Frag):List V->Hp->VK->Prop:=fun ys H Q=>∃(a:Addr) (rs:List Addr) (m:Nat),ys=[.ref a]/\SqL K H a (rs.map V.ref)/\rs≠[]/\(∀r∈rs,∃ns:List Int,SqL K H r (ns.map V.int)/\ns.length=m)/\∀r∈rs,Q (.ref r) H
theorem jhC (hc:X.calm=true) (hu:X.A.units+64<cLine):jcQ X (.builtin "min") (jle X.K):=by
 rintro pins s σ H ys us Q I r ⟨a,rs,m,rfl,hq,ne,hr,q⟩;obtain⟨u,rfl,rx⟩:=jeh r;cases rx;obtain⟨its,rv,pl,hz⟩:=I.list hq;have len:=rv.length;rw[xaa] at len;have ref:∀v∈its,∃r∈rs,v=.ref r:=fun v hv=>by
  obtain⟨i,hi⟩:=xa3 hv;have i2:i<rs.length:=by have:=(xai.mp hi).1;omega
  obtain⟨w',e1,e2⟩:=rv.get (i:=i) (show (rs.map V.ref)[i]?=some (.ref rs[i]) by rw[xak,xae i2];rfl);rw[hi] at e1;cases e1;cases e2;exact⟨_,xbm i2,rfl⟩
 have pos:0<its.toArray.size:=by
  have:=List.length_pos_iff.mpr ne;simp;omega
 have lists:∀r∈rs,∃xs:Array Value,s.heap.IsList r xs/\xs.size=m/\jiG xs:=fun r hr'=>by
  obtain⟨ns,h1,h2⟩:=hr r hr';obtain⟨is,r1,p1,_⟩:=I.list h1;have i1:IntsAre is ns:=jdi r1;exact⟨_,p1.isList,by have:=i1.length;simp;omega,jfJ i1⟩
 refine minOf (I.ok.hd hc) pl.isList pos (fun h=>∀r∈rs,∃xs:Array Value,h.IsList r xs/\xs.size=m/\jiG xs) lists (fun h h' g k r hr'=>?_) (fun u v s' Q' E' hi hj g q'=>?_) fun v h' tk hv hk=>?_
 ·obtain⟨xs,⟨o,ho,x3⟩,x2⟩:=g r hr';obtain⟨_,⟨o0,ho0,_⟩,_⟩:=lists r hr';exact⟨xs,⟨o,k r o (Heap.lt_size ho0) ho,x3⟩,x2⟩
 ·obtain⟨r1,m1,rfl⟩:=ref u (by simpa using hi);obtain⟨r2,m2,rfl⟩:=ref v (by simpa using hj);obtain⟨xs,x1,x2,x3⟩:=g r1 m1;obtain⟨ys,y1,y2,y3⟩:=g r2 m2;have hu':X.A.in1.units<cLine:=by
   have:X.A.in1.units=X.A.units+1:=rfl;omega
  exact jhB x1 y1 (by omega) x3 y3 hu' q'
 ·obtain⟨r1,m1,rfl⟩:=ref v (by simpa using hv);exact⟨.ref r1,H,I.kept hk,rfl,q r1 m1⟩
end
structure CompScopeMC (N:List Str) (sc:Scope) (N':List Str) (ix:List Nat) (xs0:List Str) (r:List Str) (cs:Scope):Prop where
 eq:N'=xs0++r
 kind:cs.kind=.function
 hown:∀y∈cs.names,y.2=.cell->cs.names.lookup y.1=some .cell
 hnames:∀y∈cs.names,y.2=.local->cs.names.lookup y.1=some .local
 nd:(xs0++r).Nodup
 fr:∀y∈cs.names,y.2=.free->sc.names.lookup y.1=some .cell\/sc.names.lookup y.1=some .free
 ixs:Ixs N sc cs r ix
theorem CompScopeMC.nest {N:List Str} {sc:Scope} {N':List Str} {ix:List Nat} {xs0:List Str} {r:List Str} {cs:Scope} (eq:N'=xs0++r) (kind:cs.kind=.function) (hown:∀y∈cs.names,y.2=.cell→cs.names.lookup y.1=some .cell) (hnames:∀y∈cs.names,y.2=.local→cs.names.lookup y.1=some .local) (nd:(xs0++r).Nodup) (h:∀y∈cs.names,y.2=.free→y.1∈r) (ixs:Ixs N sc cs r ix):CompScopeMC N sc N' ix xs0 r cs:=⟨eq,kind,hown,hnames,nd,jj9 ixs h,ixs⟩
section
variable {X:Cx} {pins:List (Addr × Obj)} {σ:St} {H:Hp} {s:Shared}
theorem Inv.compOkMC {N' r:List Str} {ix:List Nat} {xs0:List Str} {cs:Scope} {cl:List (Str × Addr)} {fp:List Addr} (I:Inv X pins σ H s) (S:CompScopeMC X.N X.env.scope N' ix xs0 r cs)
  (h2:∀y c,cl.lookup y=some c->X.env.cells.lookup y=some c) (h3:∀y,(y,NameKind.free)∈cs.names->∃c,cl.lookup y=some c) (hf:∀b∈fp,jfX X pins H b) (hfp:∀b∈fp,b<s.heap.objs.size) :
  (jaU X N' cs cl s H fp).Ok where
 mod:=I.ok.mod
 kind:=S.kind
 glob:=I.ok.glob
 blt:=I.ok.blt
 above:=xac _
 inj:=(I.cfs (cs:=cs) h2).1.inj
 has:=fun y hy=>by
  rcases hy.elim (fun z=>jc2 z (.inl rfl)) fun z=>jc2 z (.inr rfl) with z | z
  ·exact jj8 (h3 y z)
  ·obtain⟨c,h,_⟩:=jfe cs.names (s.heap.objs.size+1) cl y z;exact⟨c,h⟩
 cab:=fun y c hy e=>by
  have z:cs.names.lookup y=some .cell:=beq_iff_eq.mp hy;obtain⟨c',h,hl⟩:=jfe cs.names (s.heap.objs.size+1) cl y (PySem.mem_of_lookup z);have e':(cellsFrom (s.heap.objs.size+1) cs.names cl).lookup y=some c:=e;rw[h] at e';cases e';exact xaw (xa8 _) hl
 hd:=I.ok.hd
 frames:=I.ok.frames
 stk:=.inl rfl
 exf:=fun b hb=>⟨xas (hfp b hb),fun y c e=>by
  rcases (I.cfs (cs:=cs) h2).2 y c e with z | ⟨_,z,_⟩
  ·exact (hf b hb).2.2.2.2.1 y c z
  ·exact Nat.ne_of_gt (xah (xaU (hfp b hb)) z)⟩
 bs:=I.bs
 bsz:=xaw I.ok.bsz I.sz
 noex:=fun b o e hb=>by
  rcases (hf b hb).2.2.2.1 with z | z
  ·exact I.ok.noex b o e z
  ·exact absurd (xah (Heap.lt_size e) (xaw I.ok.bsz z)) (xaM _)
 exfs:=fun b hb hs=>by
  rcases xaf.mp (I.stkSub b hs) with z | z
  ·exact (hf b hb).2.1 z
  ·exact (hf b hb).2.2.1 z
 funs:=I.stack
 frf:=I.stkFree
theorem Inv.compStartMC {N' r:List Str} {ix:List Nat} {xs0:List Str} {cs:Scope} {cl:List (Str × Addr)} {fp:List Addr} (I:Inv X pins σ H s) (S:CompScopeMC X.N X.env.scope N' ix xs0 r cs)
  (h2:∀y c,cl.lookup y=some c->X.env.cells.lookup y=some c) (h3:∀y,(y,NameKind.free)∈cs.names->∃c,cl.lookup y=some c) (hf:∀b∈fp,jfX X pins H b) (hfp:∀b∈fp,b<s.heap.objs.size) :
  Inv (jaU X N' cs cl s H fp) [] (List.replicate xs0.length none++jaL σ ix) H { s with heap:=pushCells (s.heap.push { cls:=.type "dict",data:=.dict #[] }) cs.names }:=by
 have ok:=I.compOkMC (N':=N') (fp:=fp) S h2 h3 hf hfp;obtain⟨mo,hno,hlo⟩:=id I.loc;have hk:∀b o,s.heap.get? b=some o->(pushCells (s.heap.push { cls:=.type "dict",data:=.dict #[] }) cs.names).get? b=some o:=fun b o e=>pushCells_keeps _ _ _ _ (Heap.get?_push_of_some _ e);have cf:=(I.cfs (cs:=cs) h2).2;refine⟨ok,rfl,I.bare,Un.kept hk,⟨fun _=>none,(Heap.Ns.new s.heap (.type "dict")).keeps (pushCells_keeps _ _),fun i y v e1 e2 e3=>?_⟩,fun y c e=>?_,I.hok.fresh (xac _),fun y c e=>?_,fun p hp=>absurd (show p∈([]:List (Addr × Obj)) from hp) (by simp),I.hok.kept hk,?_⟩
 ·by_cases hi:i<xs0.length
  ·rw[xaA (by rw[xaL];exact hi),xbd,if_pos hi] at e2;cases e2
  ·have e1':r[i-xs0.length]?=some y:=by
    have:N'[i]?=some y:=e1;rw[S.eq,xaC (by omega)] at this;exact this
   have e2:(jaL σ ix)[i-xs0.length]?=some (some v):=by
    rw[xaC (by rw[xaL];omega),xaL] at e2;exact e2
   obtain⟨j,j1,j2,j3,j4⟩:=S.ixs.get e1';obtain⟨j',k1,k2⟩:=jdU (σ:=σ) (ix:=ix) (i:=i-xs0.length) (v:=v) e2;rw[j1] at k1;cases k1;obtain⟨u,ru,lk⟩:=hlo j y v j2 k2 (j3.elim (fun z=>.inr (.inl z)) fun z=>.inr (.inr z));refine⟨u,ru,?_⟩;obtain⟨c,hc⟩:=h3 y (PySem.mem_of_lookup j4);rcases lk with ⟨k,_⟩ | ⟨k,c',e',z⟩
   ·have k':X.env.scope.names.lookup y=some .local:=k;rcases j3 with q | q<;>(rw[q] at k';cases k')
   ·rw[h2 y c hc] at e';cases e';refine .inr ⟨?_,c,?_,?_⟩
    ·exact jbe (env:=X.env) j4
    ·have no:(y,NameKind.cell)∉cs.names:=fun q=>by
      have:=S.hown _ q rfl;rw[j4] at this;cases this
     show (cellsFrom (s.heap.objs.size+1) cs.names cl).lookup y=some c;rw[jfd _ _ _ y no];exact hc
    ·obtain⟨o,ho,hd⟩:=z;exact⟨o,hk c o ho,hd⟩
 ·rcases cf y c e with z | ⟨_,_,z⟩
  ·obtain⟨v,o,ho,hd⟩:=I.cell y c z;exact⟨v,o,hk c o ho,hd⟩
  ·exact⟨none,z⟩
 ·rcases cf y c e with z | ⟨_,z,_⟩
  ·exact I.freeC y c z
  ·exact I.hok.fresh (xaw (xa8 _) z)
 ·show (List.replicate xs0.length none++jaL σ ix).length=N'.length;rw[S.eq,xab,xab,xaL,S.ixs.len];unfold jaL;rw[xaa]
theorem jcS {N' r:List Str} {ix:List Nat} {xs0:List Str} {cs:Scope} {cl:List (Str × Addr)} {tg iter elt:Expr} {ifs:List Expr} {pos:Pos} {J:It} {fp:List Addr} {it:Addr} {tn:Nat->Heap->Prop} {g:TG} {tt:TT} {te:TE} {Z:Addr->Hp->Prop}
    {RR:Value->Addr->Result->Shared->Prop} {E:Value->Shared->Prop}
    (I:Inv X pins σ H s) (hc:X.calm=true) (S:CompScopeMC X.N X.env.scope N' ix xs0 r cs) (h2:∀y c,cl.lookup y=some c->X.env.cells.lookup y=some c) (h3:∀y,(y,NameKind.free)∈cs.names->∃c,cl.lookup y=some c)
    (T:Turn X.prog X.w X.K tg J fp it tn) (st:tn 0 s.heap) (hf:∀b∈fp,jfX X pins H b)
    (hg:∀s3 H3,PG (jaU X N' cs cl s3 H3 fp) tg g) (ht:∀s3 H3,PTs (jaU X N' cs cl s3 H3 fp) ifs tt) (he:∀s3 H3,PE (jaU X N' cs cl s3 H3 fp) elt te)
    (go:∀acc,H acc=none->jdo J xs0.length (jaL σ ix) g tt te acc (Z acc) H)
    (fin:∀acc C s' H' m,Inv X pins σ H' s'->jfX X pins H' C->s'.heap.Ns C m->Z acc H'->RR (.ref acc) C (.ok .next) s') :
    wpAny (model X.prog X.w) X.A (newList []) (fun acc s₃=>wpAny (model X.prog X.w) X.A (newFunctionEnv cs X.env.globals cl [] X.env.qual none .none (some X.env)) (fun cenv s₄ =>
      codeAny (model X.prog X.w) X.A (.compStart (.ListComp elt [⟨tg,iter,ifs,0⟩] cs pos) 0 (.ref it) acc { cenv with scope:=relabel cs X.env }) (RR acc cenv.locals) s₄) E s₃) E s:=by
  refine wpAny_newObj_type (jeI ?_);dsimp only;have hfs:∀b∈fp,b<s.heap.objs.size:=fun b hb=>by
    obtain⟨o,e,_⟩:=T.obj _ _ st b hb;exact Heap.lt_size e
  have I3:Inv X pins σ (upd H s.heap.objs.size (.lst [])) { s with heap:=s.heap.push { cls:=.type "list",data:=.seq ([]:List Value).toArray } }:=I.lnew (its:=[]) (t':=s.toks) .nil (xaN _);have nacc:H s.heap.objs.size=none:=I.fresh;have hf3:∀b∈fp,jfX X pins (upd H s.heap.objs.size (.lst [])) b:=fun b hb=>⟨by rw[jat (xas (hfs b hb))];exact (hf b hb).1,(hf b hb).2⟩;have hfs3:∀b∈fp,b<(s.heap.push { cls:=.type "list",data:=.seq ([]:List Value).toArray }).objs.size:=fun b hb=>by
    rw[Heap.size_push];exact xaU (hfs b hb)
  generalize hs3:({ s with heap:=s.heap.push { cls:=.type "list",data:=.seq ([]:List Value).toArray } }:Shared)=s3 at I3;generalize hH3:upd H s.heap.objs.size (.lst [])=H3 at I3 hf3;have eh:s.heap.push { cls:=.type "list",data:=.seq ([]:List Value).toArray }=s3.heap:=by rw[<- hs3]
  rw[eh] at hfs3;have I4:Inv (jaU X N' cs cl s3 H3 fp) [] (List.replicate xs0.length none++jaL σ ix) H3 { s3 with heap:=pushCells (s3.heap.push { cls:=.type "dict",data:=.dict #[] }) cs.names } :=
    I3.compStartMC S h2 h3 hf3 hfs3
  have cf:=(I3.cfs (cs:=cs) h2).2;have kp2:∀b o,s.heap.get? b=some o->(pushCells (s3.heap.push { cls:=.type "dict",data:=.dict #[] }) cs.names).get? b=some o:=fun b o e=>pushCells_keeps _ _ _ _ (Heap.get?_push_of_some _ (by rw[<- eh];exact Heap.get?_push_of_some _ e));have st4:tn 0 (pushCells (s3.heap.push { cls:=.type "dict",data:=.dict #[] }) cs.names):=T.keep _ _ _ st fun b hb o e=>kp2 b o e;obtain⟨W,⟨m0,w0⟩,turn⟩:=go s.heap.objs.size nacc;rw[hH3] at w0;have stat:∀{H':Hp},(∀b∈fp,H' b=none)->∀b∈fp,jfX (jaU X N' cs cl s3 H3 fp) [] H' b:=fun hn b hb =>
    ⟨hn b hb,xas (hfs3 b hb),fun hs=>by
      rcases xaf.mp (I.stkSub b hs) with z | z
      . exact (hf b hb).2.1 z
      . exact (hf b hb).2.2.1 z,.inl hb,fun y c e=>by
        rcases cf y c e with z | ⟨_,z,_⟩
        . exact (hf b hb).2.2.2.2.1 y c z
        . exact Nat.ne_of_gt (xah (xaU (hfs3 b hb)) z),fun p hp=>absurd (show p∈([]:List (Addr × Obj)) from hp) (by simp)⟩
  have es:s3.heap.objs.size=s.heap.objs.size+1:=by rw[<- eh,Heap.size_push]
  have loop:codeAny (model X.prog X.w) X.A (.compLoop (.ListComp elt [⟨tg,iter,ifs,0⟩] cs pos) 0 (.ref it) (.ref s.heap.objs.size) (jaU X N' cs cl s3 H3 fp).env)
      (RR (.ref s.heap.objs.size) s3.heap.objs.size) { s3 with heap:=pushCells (s3.heap.push { cls:=.type "dict",data:=.dict #[] }) cs.names }:=by
    refine je7 (fun n s'=>∃i v0 H' xs,v0.length=xs0.length/\Inv (jaU X N' cs cl s3 H3 fp) [] (v0++jaL σ ix) H' s'/\tn i s'.heap/\(∀b∈fp,H' b=none)/\W i n xs H') ?_ m0
      ⟨0,List.replicate xs0.length none,H3,[],xaL,I4,st4,fun b hb=>(hf3 b hb).1,w0⟩
    rintro n s5 ⟨i,v0,H5,xs,l5,I5,st5,fr5,w5⟩;rcases turn i n xs H5 w5 with ⟨stop,q⟩ | ⟨hgo,Nx,Nn,hNx,hNn,step⟩
    . refine thn (T.done (jaU X N' cs cl s3 H3 fp) rfl rfl rfl hc i [] s5 _ H5 _ I5 (stat fr5) st5 stop) fun r' s6 ⟨hr,I6⟩=>?_
      subst hr;have u:Un (frs X.stack) fp H H5 s.heap s6.heap:=by
        refine Un.trans (H1:=H3) (h1:=s3.heap) ?_ I6.base;rw[<- hH3,<- eh];exact Un.laid (fun _ _ q=>Heap.get?_push_of_some _ q) (xac _) nacc
      have e3:s3.os=s.os:=by rw[<- hs3]
      have os6:s6.os=s.os:=I6.os.trans e3;have J6:Inv X pins σ H5 s6:=I.call' os6 u I6.hok I6.bare fun b hb=>⟨(hf b hb).2.2.2.1,(hf b hb).2.1,(hf b hb).2.2.2.2.1,(hf b hb).2.2.2.2.2⟩;obtain⟨m6,n6,_⟩:=I6.loc;exact fin _ _ s6 H5 m6 J6 (I.fpOk (by rw[es];exact xa8 _) I6.free) n6 q
    . refine thn (T.item (jaU X N' cs cl s3 H3 fp) rfl rfl rfl hc i [] s5 _ H5 _ I5 (stat fr5) st5 hgo) fun r' s6 ⟨u,hr,h6⟩=>?_
      subst hr;refine thn h6 fun _ s7 ⟨y,H7,I7,r7,y7,st7,fr7⟩=>?_;have I7':=I7.pinned (stat fr7) (T.obj _ _ st7);refine wpAny_mono (hg s3 H3 _ s7 _ H7 y u _ I7' r7 (step v0 y H7 l5 y7)) (fun _ s8 ⟨σ8,H8,I8,⟨v8,l8,e8⟩,q8⟩=>?_) fun _ _ z=>z.elim;subst e8;have back:∀{s9:Shared} {H9:Hp} {m':Nat} {xs':List V},Inv (jaU X N' cs cl s3 H3 fp) ([]++jeZ fp s7.heap) (v8++jaL σ ix) H9 s9->m'<n->W (i+1) m' xs' H9 ->
          ∃m,m<n/\∃i v0 H' xs,v0.length=xs0.length/\Inv (jaU X N' cs cl s3 H3 fp) [] (v0++jaL σ ix) H' s9/\tn i s9.heap/\(∀b∈fp,H' b=none)/\W i m xs H':=fun {s9 H9 m' xs'} I9 hm w9 =>
        ⟨m',hm,i+1,v8,H9,xs',l8,I9.unpinned,T.keep _ _ _ st7 fun b hb o e=>(I9.pin (b,o) (xat _ (xat _ (jcA hb e)))).1,fun b hb=>by
          obtain⟨o,e,d⟩:=T.obj _ _ st7 b hb;exact (I9.pin (b,o) (xat _ (xat _ (jcA hb e)))).2.1,w9⟩
      refine thn (ht s3 H3 _ _ s8 _ H8 _ (fun _ _ z=>z.elim) I8 q8) fun b s9 ⟨H9,I9,q9⟩=>?_;cases b with
      | false =>
        rw[if_neg xan] at q9 |-
        obtain⟨m',hm,w9⟩:=hNn H9 q9;exact back I9 hm w9
      | true =>
        rw[if_pos rfl] at q9 |-
        refine wpAny_mono (he s3 H3 _ s9 _ H9 _ I9 q9) (fun u2 s10 ⟨y2,H10,I10,r10,q10⟩=>?_) fun _ _ z=>z.elim;obtain⟨a10,z10,m',hm,w10⟩:=hNx y2 H10 q10;refine wpAny_mono (jbx (X:=jaU X N' cs cl s3 H3 fp) _ s10 _ H10 (.ref s.heap.objs.size) [y2] (.ref s.heap.objs.size) [u2] (fun _ H'=>H'=upd H10 s.heap.objs.size (.lst (xs++[y2]))) I10 rfl (.cons r10 .nil) ⟨_,xs,y2,rfl,rfl,a10,z10,rfl⟩) (fun _ s11 ⟨_,H11,I11,_,e11⟩=>?_) fun _ _ z=>z.elim;subst e11;exact back I11 hm w10
  subst hs3;exact codeAny_compStart_list loop (T.self X.A 0 _ _ _ st4 loop)
end
section
variable {X:Cx} {N' r xs0:List Str} {ix:List Nat} {cs:Scope} {tg iter elt:Expr} {ifs:List Expr} {pos:Pos} {wi:TI} {g:TG} {tt:TT} {te:TE}
theorem CompScopeMC.clos {sc:Scope} {N:List Str} (S:CompScopeMC N sc N' ix xs0 r cs) {env:Env} (he:env.scope=sc) (has:∀y,(env.kindOf y=some .cell\/env.kindOf y=some .free)->∃c,env.cells.lookup y=some c) :
  ∃cl:List (Str × Addr),closureFor cs env=pure cl/\(∀y c,cl.lookup y=some c->env.cells.lookup y=some c)/\(∀y,(y,NameKind.free)∈cs.names->∃c,cl.lookup y=some c) :=
 jdl fun y hy hk=>has y.1 (by
  subst he;exact S.fr y hy hk)
theorem jfj (hc:X.calm=true) (S:CompScopeMC X.N X.env.scope N' ix xs0 r cs) (hi:PI X tg iter wi)
  (hg:∀cl s3 H3 fp,PG (jaU X N' cs cl s3 H3 fp) tg g) (ht:∀cl s3 H3 fp,PTs (jaU X N' cs cl s3 H3 fp) ifs tt) (he:∀cl s3 H3 fp,PE (jaU X N' cs cl s3 H3 fp) elt te)
  (hs:∀x,foldedSetIterable iter X.env x=pure x:=by intro _;rfl):PE X (.ListComp elt [⟨tg,iter,ifs,0⟩] cs pos) (jhw wi ix xs0.length g tt te):=by
 intro pins s σ H Q I h;obtain⟨cl,c1,c2,c3⟩:=S.clos rfl I.ok.has;rw[eval_ListComp];refine wpAny_comprehension_free (use:=none) rfl hs c1 S.kind S.hnames (thn (hi pins s σ H _ I h) fun v s1 h1=>thn h1 fun itv s2 h2=>?_);obtain⟨it,fp,tn,J,H2,e,I2,T,st2,f2,R⟩:=h2;subst e;refine jcS (RR:=fun acc C=>compPost (model X.prog X.w) X.A X.xe none (EP X pins σ Q) acc C) I2 hc S c2 c3 T st2 f2 (fun s3 H3=>hg cl s3 H3 fp) (fun s3 H3=>ht cl s3 H3 fp) (fun s3 H3=>he cl s3 H3 fp) R ?_;intro acc C s' H' m I' fC hn q;refine⟨m,hn,fun h' hb=>⟨.ref acc,H',?_,rfl,q⟩⟩;exact I'.turned (t':=s'.toks) (fun b o hne e=>(hb.2 b hne).trans e) fC.1 fC.2.1 fC.2.2.2.1 fC.2.2.2.2.1 fC.2.2.2.2.2
end
theorem CompScopeC.mc {N:List Str} {sc:Scope} {N':List Str} {ix:List Nat} {x:Str} {r:List Str} {cs:Scope} (S:CompScopeC N sc N' ix x r cs):CompScopeMC N sc N' ix [x] r cs:=⟨S.eq,S.kind,S.hown,S.hnames,S.nd,S.fr,S.ixs⟩
theorem CompGo.m1 {J:It} {ρ:St} {g:TG} {tt:TT} {te:TE} {acc:Addr} {Z:Hp->Prop} {H1:Hp} (h:CompGo J ρ g tt te acc Z H1):jdo J [("":Str)].length ρ g tt te acc Z H1:=by
 obtain⟨W,h0,hs⟩:=h;refine⟨W,h0,fun i m xs H w=>?_⟩;rcases hs i m xs H w with h | ⟨hg,Nx,Nn,h1,h2,step⟩
 ·exact .inl h
 ·refine .inr ⟨hg,Nx,Nn,h1,h2,fun v0 x H' l0 y=>?_⟩;obtain⟨a,rfl⟩:=List.length_eq_one_iff.mp l0;have e:(fun (σ2:St) (H2:Hp)=>(∃v,σ2=v::ρ)/\tt σ2 H2 fun b H3=>if b=true then te σ2 H3 Nx else Nn H3)=fun σ2 H2=>(∃v:St,v.length=[("":Str)].length/\σ2=v++ρ)/\tt σ2 H2 fun b H3=>if b=true then te σ2 H3 Nx else Nn H3:=by
   funext σ2 H2
   refine congrArg (·/\_) (propext ⟨fun ⟨v,e⟩=>⟨[v],rfl,e⟩,fun ⟨v,l,e⟩=>?_⟩);obtain⟨b,rfl⟩:=List.length_eq_one_iff.mp l;exact⟨b,e⟩
  have:=step a x H' y;rw[e] at this;exact this
section
variable {X:Cx} {N' r:List Str} {ix:List Nat} {x:Str} {cs:Scope} {tg iter elt:Expr} {ifs:List Expr} {pos:Pos} {wi:TI} {g:TG} {tt:TT} {te:TE}
theorem ja6 (hc:X.calm=true) (S:CompScopeC X.N X.env.scope N' ix x r cs) (hi:PI X tg iter wi)
  (hg:∀cl s3 H3 fp,PG (jaU X N' cs cl s3 H3 fp) tg g) (ht:∀cl s3 H3 fp,PTs (jaU X N' cs cl s3 H3 fp) ifs tt) (he:∀cl s3 H3 fp,PE (jaU X N' cs cl s3 H3 fp) elt te)
  (hs:∀x,foldedSetIterable iter X.env x=pure x:=by intro _;rfl):PE X (.ListComp elt [⟨tg,iter,ifs,0⟩] cs pos) (jfy wi ix g tt te):=by
 intro pins s σ H Q I h;obtain⟨cl,c1,c2,c3⟩:=S.mc.clos rfl I.ok.has;rw[eval_ListComp];refine wpAny_comprehension_free (use:=none) rfl hs c1 S.kind S.hnames (thn (hi pins s σ H _ I h) fun v s1 h1=>thn h1 fun itv s2 h2=>?_);obtain⟨it,fp,tn,J,H2,e,I2,T,st2,f2,R⟩:=h2;subst e;refine jcS (RR:=fun acc C=>compPost (model X.prog X.w) X.A X.xe none (EP X pins σ Q) acc C) I2 hc S.mc c2 c3 T st2 f2 (fun s3 H3=>hg cl s3 H3 fp) (fun s3 H3=>ht cl s3 H3 fp) (fun s3 H3=>he cl s3 H3 fp) (fun acc h=>(R acc h).m1) ?_;intro acc C s' H' m I' fC hn q;refine⟨m,hn,fun h' hb=>⟨.ref acc,H',?_,rfl,q⟩⟩;exact I'.turned (t':=s'.toks) (fun b o hne e=>(hb.2 b hne).trans e) fC.1 fC.2.1 fC.2.2.2.1 fC.2.2.2.2.1 fC.2.2.2.2.2
end
def AtM (K:PySem.W.Frag) (C:Addr) (m qual:Str) (st:Stmt) (ps:List Str):Prop:=∃f fd dV,FunD K m qual st f fd dV/\Meth K C m f/\Binds K fd ps []
def jaW (P:Program) (w:World) (K:PySem.W.Frag) (mg:Str->Option Value) (base:Heap) (CX:CXT) (k:Nat) (C:Addr) (m:Str) (ps:List Str) (sp:Sp):Prop :=
 ∃f fd,FnOk P w K mg base CX k f fd ps sp/\Meth K C m f/\Binds K fd ps []
section
variable {P:Program} {w:World} {K:PySem.W.Frag} {mg:Str->Option Value} {base:Heap}
theorem AtM.ok {C:Addr} {m qual:Str} {st:Stmt} {N ps:List Str} {k:Nat} {sp:Sp} (F:AtM K C m qual st ps) (S:FnScope N ps (jag st)) (len:∀vs H Q E,sp vs H Q E->vs.length=ps.length)
  (hbody:∀(f:Addr) (cdv:Value) (A:Around) (outer:List Env) (s:Shared) (H:Hp) (vs:List V) (Q:VK) (E:XK),Room k (A.deeper (envOfC qual (jag st) s.heap.objs.size f cdv))->sp vs H Q E ->
   ∃t,PSs (jfu CX0 P w K mg base N qual (jag st) f cdv A outer s H E).nox (jaX st) t/\t { nx:=fun _ H'=>Q .non H',rt:=Q } (start N vs) H):jaW P w K mg base CX0 (k+1) C m ps sp:=by
 obtain⟨f,fd,dV,F1,hm,hb⟩:=F;exact⟨f,fd,F1.ok S len (hbody f),hm,hb⟩
theorem AtM.okX {C:Addr} {m qual:Str} {st:Stmt} {N ps:List Str} {k:Nat} {sp:Sp} (F:AtM K C m qual st ps) (S:FnScope N ps (jag st)) (len:∀vs H Q E,sp vs H Q E->vs.length=ps.length)
  (hbody:∀(f:Addr) (cdv:Value) (A:Around) (outer:List Env) (s:Shared) (H:Hp) (vs:List V) (Q:VK) (E:XK),Room k (A.deeper (envOfC qual (jag st) s.heap.objs.size f cdv))->sp vs H Q E ->
   ∃t,PSs (cxX P w K mg base N qual (jag st) f cdv A outer s H E) (jaX st) t/\t { nx:=fun _ H'=>Q .non H',rt:=Q } (start N vs) H):jaW P w K mg base (XOk P w) (k+1) C m ps sp:=by
 obtain⟨f,fd,dV,F1,hm,hb⟩:=F;exact⟨f,fd,F1.okX S len (hbody f),hm,hb⟩
end
section
variable {X:Cx} {CX:CXT} {k:Nat} {C:Addr} {ps:List Str} {sp:Sp} {E:XK} {m x:Str} {p pos apos:Pos} {e o:Expr} {es:List Expr} {ta:TE} {t:TA}
theorem jeK {pl:Sem Bool} (D:jaW X.prog X.w X.K X.mg X.base CX k C m ps sp) (he:PE X o ta) (c:Cls X.K C) (hr:Room k X.A) (hx:jb8 CX X E) (ha:PA X (e::es) t)
  (hst:starEach (e::es) X.env=(false,eval e X.env)::starEach es X.env:=by rfl) (hpl:(backTo pos (starEach es X.env)).any (·.1)=false:=by rfl)
  (ht:eval (.Call (.Attribute o m apos) (e::es) [] pos) X.env=(do
   let ov <- eval o X.env
   standAt apos.atName
   let (f,first) <- holding [ov] (getMethod ov m pl)
   callWith pos f first (backTo pos (starEach (e::es) X.env)) (backToKw pos (keywordEach [] X.env))):=by rfl) :
  PE X (.Call (.Attribute o m apos) (e::es) [] pos) (jit C m sp [] E ta t):=by
 obtain⟨f,fd,F,hm,hb⟩:=D;exact jjT he c hm F hr hb .nil hx ha hst hpl ht
theorem jcj {pl:Sem Bool} (D:jaW X.prog X.w X.K X.mg X.base CX k C m ps sp) (he:PE X o ta) (c:Cls X.K C) (hr:Room k X.A) (hx:jb8 CX X E)
  (ht:eval (.Call (.Attribute o m apos) [] [] pos) X.env=(do
   let ov <- eval o X.env
   standAt apos.atName
   let (f,first) <- holding [ov] (getMethod ov m pl)
   callWith pos f first (backTo pos (starEach [] X.env)) (backToKw pos (keywordEach [] X.env))):=by rfl) :
  PE X (.Call (.Attribute o m apos) [] [] pos) (jit C m sp [] E ta jgD):=by
 obtain⟨f,fd,F,hm,hb⟩:=D;exact jiu he c hm F hr hb .nil hx ht
theorem jfk (D:jaW X.prog X.w X.K X.mg X.base CX k C "__init__" ps sp) (mk:PySem.W.makesIn X.K C=true) (kp:PySem.W.keepIn X.K (.ref C)=true) (hr:Room (k+1) X.A) (hg:Gl X x) (hm:X.mg x=some (.ref C)) (hx:jb8 CX X E)
  (hdb:(x==("__debug__":Str))=false:=by decide):PE X (.Call (.Name x p) [] [] pos) (jkX C sp [] E jgD):=by
 obtain⟨f,fd,F,M,hb⟩:=D;exact jiw ⟨mk,M.at_,M.fn,kp⟩ F hr hg hm hb .nil hx hdb
theorem jhD {f:Addr} {fd:FuncData} {pins:List (Addr × Obj)} {σ:St} {H:Hp} {s:Shared} {Q:VK} {us:List Value} {vs:List V} (F:FnOk X.prog X.w X.K X.mg X.base (XOk X.prog X.w) k f fd ps sp) (hr:Room k X.A) (hb:Binds X.K fd ps [])
    (I:Inv X pins σ H s) (r:Vals vs us) (h:sp vs H Q E):wpAny (model X.prog X.w) X.A (call (.ref f) us) (EP X pins σ Q) (XP X pins σ E) s:=by
  have hl:(us++[]).length=ps.length:=by rw[List.append_nil,<- r.length];exact F.len _ _ _ _ h
  have hbb:=hb s us I.kIn hl;rw[List.append_nil] at hbb;refine wpAny_call (codeAny_mono (F.run X.A X.stack s H ⟨us,[]⟩ us vs Q E hr I.env0 hbb r h) fun r s' hq=>?_);cases r with
  | error e=>exact⟨H,s,I,hq⟩
  | ok fl =>
    cases fl with
    | ret u=>exact I.after hq
    | next=>exact False.elim hq
    | brk=>exact False.elim hq
    | cont=>exact False.elim hq
def jjg (C:Addr) (m:Str) (sp:Sp) (ta:TE) (t:TA):TX:=fun σ H Q E=>ta σ H fun x H1=>∃a dx fs,x=.ref a/\H1 a=some (.ins C dx fs)/\fs.lookup m=none/\t σ H1 fun vs H2=>sp (x::vs) H2 Q E
theorem jf9 {pl:Sem Bool} (D:jaW X.prog X.w X.K X.mg X.base (XOk X.prog X.w) k C m ps sp) (he:PE X.nox o ta) (c:Cls X.K C) (hr:Room k X.A) (ha:PA X.nox (e::es) t)
  (hst:starEach (e::es) X.env=(false,eval e X.env)::starEach es X.env:=by rfl) (hpl:(backTo pos (starEach es X.env)).any (·.1)=false:=by rfl)
  (ht:eval (.Call (.Attribute o m apos) (e::es) [] pos) X.env=(do
   let ov <- eval o X.env
   standAt apos.atName
   let (f,first) <- holding [ov] (getMethod ov m pl)
   callWith pos f first (backTo pos (starEach (e::es) X.env)) (backToKw pos (keywordEach [] X.env))):=by rfl) :
  PX X (.Call (.Attribute o m apos) (e::es) [] pos) (jjg C m sp ta t):=by
 obtain⟨f,fd,F,hm,hb⟩:=D;intro pins s σ H Q E I h;refine PySem.W.methodCall_KW (pl:=pl) (wpAny_mono (he pins s σ H _ (I.wish _) h) (fun u s1 ⟨x,H1,I1',rx,a,dx,fs,ex,ea,l,q⟩=>?_) fun _ _ z=>z.elim) ht;have I1:Inv X pins σ H1 s1:=I1'.unwish;subst ex;obtain rfl:u=Value.ref a:=rx;refine jcB I1 ea c hm l ?_;refine PySem.W.callWith_K (first:=[.ref a]) (h₀:=X.base) I.ok.mod.kin hm.kp (wpAny_mono (ha pos pins s1 σ H1 _ (I1.wish _) q) (fun us s2 ⟨vs,H2,I2',r,q2⟩=>?_) fun _ _ z=>z.elim) hst hpl;have I2:Inv X pins σ H2 s2:=I2'.unwish;exact⟨I2.kIn,jhD (us:=.ref a::us) (vs:=.ref a::vs) F hr hb I2 (.cons rfl r) q2⟩
theorem jhE {pl:Sem Bool} (D:jaW X.prog X.w X.K X.mg X.base (XOk X.prog X.w) k C m ps sp) (he:PE X.nox o ta) (c:Cls X.K C) (hr:Room k X.A)
  (ht:eval (.Call (.Attribute o m apos) [] [] pos) X.env=(do
   let ov <- eval o X.env
   standAt apos.atName
   let (f,first) <- holding [ov] (getMethod ov m pl)
   callWith pos f first (backTo pos (starEach [] X.env)) (backToKw pos (keywordEach [] X.env))):=by rfl) :
  PX X (.Call (.Attribute o m apos) [] [] pos) (jjg C m sp ta jgD):=by
 obtain⟨f,fd,F,hm,hb⟩:=D;intro pins s σ H Q E I h;refine PySem.W.methodCall_KW (pl:=pl) (wpAny_mono (he pins s σ H _ (I.wish _) h) (fun u s1 ⟨x,H1,I1',rx,a,dx,fs,ex,ea,l,q⟩=>?_) fun _ _ z=>z.elim) ht;have I1:Inv X pins σ H1 s1:=I1'.unwish;subst ex;obtain rfl:u=Value.ref a:=rx;refine jcB I1 ea c hm l ?_;exact PySem.W.callWith_K0 (first:=[.ref a]) I1.kIn hm.kp (jhD (us:=[.ref a]) (vs:=[.ref a]) F hr hb I1 (.cons rfl .nil) q)
theorem jjh {c:Expr} {a b:List Stmt} {tc:TT} {u v:TSX} (hc:PT X.nox c tc) (ha:PSX X a u) (hb:PSX X b v):PSX X [.If c a b pos] (fun D E σ H=>tc σ H fun d H1=>if d=true then u D E σ H1 else v D E σ H1):=by
  intro pins s σ H D E I h;refine wpAny_execs_cons (wpAny_If (wpAny_mono (hc pins s σ H _ (I.wish _) h) (fun d s1 ⟨H1,I1',q1⟩=>?_) fun _ _ z=>z.elim));have I1:Inv X pins σ H1 s1:=I1'.unwish;have fin:∀{b:List Stmt},wpAny (model X.prog X.w) X.A (execs b X.env) (SP X pins D) (fun ex s'=>∃σ1,XP X pins σ1 (E σ1) ex s') s1->wpAny (model X.prog X.w) X.A (execs b X.env) (fun f s2=>match f with
    | .next=>wpAny (model X.prog X.w) X.A (execs [] X.env) (SP X pins D) (fun ex s'=>∃σ1,XP X pins σ1 (E σ1) ex s') s2
    | f => SP X pins D f s2) (fun ex s' => ∃ σ1, XP X pins σ1 (E σ1) ex s') s1 := fun z => wpAny_mono z (fun f s2 q => by
      cases f with
      | next=>exact wpAny_execs_nil q
      | ret v=>exact q
      | brk=>exact q
      | cont=>exact q) fun _ _ z=>z
  cases d with
  | true=>exact fin (ha pins s1 σ H1 D E I1 q1)
  | false=>exact fin (hb pins s1 σ H1 D E I1 q1)
def jkc (K:PySem.W.Frag):V->List V->Hp->VK->Prop:=fun x ys H Q=>∃(p:Addr) (xs:List V) (y:V),x=.ref p/\ys=[y]/\SqL K H p xs/\jdH y=true/\xs.all jdH=true/\inV y xs=true/\xs.length<1000/\Q (.int (xs.findIdx fun z=>eqV z y:Nat)) H
theorem jga {x:V}:∀{xs:List V} {us:List Value},Vals xs us->xs.all jdH=true->us.findIdx (eqU x)=xs.findIdx fun y=>eqV y x
  | _,_,.nil,_=>rfl
  | y :: xs, u :: us, .cons r t, f => by
    rw[xby,xaJ] at f;rw[xbj,xbj,jhd r f.1,jga t f.2]
theorem jhF:MtR X "list.index" (jkc X.K):=by
 intro pins s σ H x xs v us Q I rx r h;obtain⟨p,zs,y,rfl,rfl,hq,fy,fs,hin,hn,q⟩:=h;cases (show v=Value.ref p from rx);obtain⟨u,rfl,r1⟩:=jeh r;obtain⟨its,rv,pl,hz⟩:=I.list hq;have hl:=rv.length;obtain⟨⟨cls,dd,data,sl⟩,ho,hc,n,hd⟩:=id pl.isList;simp only at hc hd;subst hc hd;have ha:its.any (eqU y)=true:=(jdj rv fs).trans hin;obtain⟨w0,hw0,e0⟩:=List.any_eq_true.mp ha;have hj:its.findIdx (eqU y)<its.length:=xa1 ⟨w0,hw0,e0⟩;have ej:=jga (x:=y) rv fs;refine call_meets F.slot_list_index ⟨_,ho,rfl⟩ F.entry_list_index (F.args_list_index_2 _ _) (SeqAt.list_indexAt p its.toArray n dd sl u (eqU y) (its.findIdx (eqU y)) (by simpa using hj) (by omega) ?_ ?_) ⟨ho,fun w hw=>jcC r1 fy rv fs w (by simpa using hw),⟨.int _,H,I.tok _,⟨_,rfl⟩,by rw[ej];exact q⟩⟩
 ·simpa using List.findIdx_getElem (w:=hj)
 ·intro m hm hlt;have:=List.not_of_lt_findIdx hlt;simpa using this
end
section
variable {X:Cx} {N' r xs0:List Str} {ix:List Nat} {cs:Scope} {tg iter elt:Expr} {ifs:List Expr} {pos:Pos} {wi:TI} {g:TG} {tt:TT} {te:TE}
theorem jfl {i:Nat} {y:Str} {py spos:Pos} (hc:X.calm=true) (hN:X.N.Nodup) (hiN:X.N[i]?=some y) (hy:X.env.scope.names.lookup y=some .local) (S:CompScopeMC X.N X.env.scope N' ix xs0 r cs) (hi:PI X tg iter wi)
  (hg:∀cl s3 H3 fp,PG (jaU X N' cs cl s3 H3 fp) tg g) (ht:∀cl s3 H3 fp,PTs (jaU X N' cs cl s3 H3 fp) ifs tt) (he:∀cl s3 H3 fp,PE (jaU X N' cs cl s3 H3 fp) elt te)
  (hsw:swapsWith (.ListComp elt [⟨tg,iter,ifs,0⟩] cs pos) (some (.Name y py)) spos.line X.env=pure true:=by rfl)
  (hs:∀x,foldedSetIterable iter X.env x=pure x:=by intro _;rfl):PS X (.Assign [.Name y py] (.ListComp elt [⟨tg,iter,ifs,0⟩] cs pos) spos) (jjH (jhw wi ix xs0.length g tt te) (jbL i)):=by
 intro pins s σ H D I h;obtain⟨cl,c1,c2,c3⟩:=S.clos rfl I.ok.has;rw[exec_Assign_Name_used _ _ _ _ hsw];refine wpAny_bind (wpAny_standAt (wpAny_bind ?_));show wpAny _ X.A (do let _ <- comprehension (.ListComp elt [⟨tg,iter,ifs,0⟩] cs pos) cs X.env _ (newList []) false (eval iter X.env) (some (assign (.Name y py) X.env))) _ _ s;refine wpAny_bind (wpAny_mono (wpAny_comprehension_free (use:=some (assign (.Name y py) X.env)) (Q:=fun _ s'=>SP X pins D .next s') rfl hs c1 S.kind S.hnames
  (thn (hi pins s σ H _ I h) fun v s1 h1=>thn h1 fun itv s2 h2=>?_)) (fun _ s' hq=>wpAny_pure (wpAny_pure hq)) fun _ _ e=>e)
 obtain⟨it,fp,tn,J,H2,e,I2,T,st2,f2,R⟩:=h2;subst e;refine jcS (RR:=fun acc C=>compPost (model X.prog X.w) X.A X.xe (some (assign (.Name y py) X.env)) (fun _ s'=>SP X pins D .next s') acc C) I2 hc S c2 c3 T st2 f2 (fun s3 H3=>hg cl s3 H3 fp) (fun s3 H3=>ht cl s3 H3 fp) (fun s3 H3=>he cl s3 H3 fp) R ?_;intro acc C s' H' m I' fC hn q;show wpAny _ X.A (assign (.Name y py) X.env (.ref acc)) _ _ _;refine wpAny_assign_Name (jeV (v:=.ref acc) I' hN hiN (.inl hy) rfl (fun s'' I'' ⟨a,hb,ha⟩=>?_) (.inr hy));have hCa:C≠a:=fun z=>by
  rcases ha with ha | ha
  ·exact fC.2.1 (z.trans ha)
  ·exact fC.2.2.2.2.1 y a ha z.symm
 refine⟨m,hn.sameBut hb hCa,fun h' hb'=>⟨_,H',?_,q⟩⟩;exact I''.turned (t':=s''.toks) (fun b o hne e=>(hb'.2 b hne).trans e) fC.1 fC.2.1 fC.2.2.2.1 fC.2.2.2.2.1 fC.2.2.2.2.2
end
structure RoomN (k:Nat) (A:Around):Prop where
 dp:A.depth+3*k+5<recursionLimit
 un:A.units+16*k+200<cLine
theorem RoomN.deeper {k:Nat} {A:Around} (r:RoomN (k+1) A) (env:Env):RoomN k (A.deeper env) :=
 ⟨by have:=r.dp;show A.depth+1+3*k+5<_;omega,by have:=r.un;show A.units+3+16*k+200<_;omega⟩
theorem RoomN.depth {k:Nat} {A:Around} (r:RoomN k A):A.depth<recursionLimit:=by have:=r.dp;omega
theorem Room.caught {j k:Nat} {A:Around} {e:Value} (r:Room k A) (h:j<=k):RoomN j (A.mark (some e)):=⟨by have:=r.dp;show A.depth+3*j+5<_;omega,by have:=r.un;show A.units+16*j+200<_;omega⟩
def cxN (P:Program) (w:World) (K:PySem.W.Frag) (mg:Str->Option Value) (base:Heap) (N:List Str) (qual:Str) (scope:Scope) (f:Addr) (cd:Value) (A:Around) (outer:List Env) (s:Shared) (H:Hp):Cx :=
 { (jfu CX0 P w K mg base N qual scope f cd A outer s H (fun _ _ _=>False)) with calm:=false,xe:=fun _ _=>False }
theorem jgO {P:Program} {w:World} {K:PySem.W.Frag} {mg:Str->Option Value} {base:Heap} {N ps:List Str} {qual:Str} {scope:Scope} {f:Addr} {cd:Value} {A:Around} {outer:List Env} {s s1:Shared} {H:Hp} {us:List Value} {vs:List V}
  (S:FnScope N ps scope) (e0:Env0 P w K mg base A outer s H) (hl:vs.length=ps.length) (r:Vals vs us)
  (x:InCallC s s.heap.objs.size (bindL (envOfC qual scope s.heap.objs.size f cd).kindOf (ps.zip us) fun _=>none) (cellsFrom (s.heap.objs.size+1) scope.names []) (bindC (envOfC qual scope s.heap.objs.size f cd).kindOf (ps.zip us) fun _=>none) s1) :
  Inv (cxN P w K mg base N qual scope f cd A outer s H) [] (start N vs) H s1:=by
 have hpl:ps.length<=N.length:=by have:=congrArg List.length S.pre;rw[xag] at this;omega
 obtain⟨h1,tk,rfl,hk⟩:=x.done;have noA:∀b:Addr,b∉(cxN P w K mg base N qual scope f cd A outer s H).ex:=fun b z=>absurd (show b∈([]:List Addr) from z) (by simp);refine⟨⟨e0.mod,S.kind,rfl,rfl,xac _,fun y z c h1 h2=>?_,fun y hy=>?_,fun y c _ h=>?_,(fun z=>nomatch z),Around.frames_deeper e0.frames,.inr ⟨rfl,rfl⟩,fun b z=>absurd z (noA b),e0.bs,e0.bsz,fun b _ _=>noA b,fun b z=>absurd z (noA b),e0.funs,e0.frf⟩,
  rfl,e0.bare,Un.kept hk,⟨_,x.toInCall.ns,fun i y v h1 h2 h3=>?_⟩,fun y c h=>⟨_,x.cell y c h⟩,e0.hok.fresh (xac _),fun y c h=>?_,fun p hp=>absurd (show p∈([]:List (Addr × Obj)) from hp) (by simp),e0.hok.kept hk,?_⟩
 ·exact name_of_addr x.apart (PySem.mem_of_lookup h1) (PySem.mem_of_lookup h2)
 ·have hy:scope.names.lookup y=some .cell\/scope.names.lookup y=some .free:=hy;rcases hy with hy | hy
  ·exact jdJ hy
  ·exact absurd rfl (S.nofree _ (PySem.mem_of_lookup hy))
 ·exact xaF (x.above y c (PySem.mem_of_lookup h))
 ·have hi:i<vs.length:=by
   unfold start at h2;by_cases hi:i<vs.length
   ·exact hi
   ·rw[xaC (by simpa using hi)] at h2;rw[xbd] at h2;split at h2<;>cases h2
  have ha:vs[i]?=some v:=by
   unfold start at h2;rw[xaA (by simpa using hi),xak] at h2;cases e:vs[i]? with
   | none=>rw[e] at h2;cases h2
   | some a=>rw[e] at h2;cases h2;rfl
  obtain⟨u,hu,rv⟩:=r.get ha;have hp:ps[i]?=some y:=by
   rw[<- S.pre,xba (by omega)];exact h1
  have ndP:ps.Nodup:=by rw[<- S.pre];exact S.nd.sublist (List.take_sublist _ _)
  refine⟨u,rv,?_⟩;rcases S.par y (xay hp) with k | k
  ·exact .inl ⟨k,jdP ndP hp hu k⟩
  ·obtain⟨c,e⟩:=jdJ (n:=s.heap.objs.size+1) k;refine .inr ⟨.inl k,c,e,?_⟩;have q:=x.cell y c e;rw[jdQ ndP hp hu (by show scope.names.lookup y≠_;rw[k];decide)] at q;exact q
 ·exact e0.hok.fresh (xaF (x.above y c (PySem.mem_of_lookup h)))
 ·unfold start;show _=N.length;rw[xab,xaa,xaL];omega
structure FnN (P:Program) (w:World) (K:PySem.W.Frag) (mg:Str->Option Value) (base:Heap) (k:Nat) (f:Addr) (fd:FuncData) (ps:List Str) (sp:Sp):Prop where
 len:∀vs H Q E,sp vs H Q E->vs.length=ps.length
 run:∀(A:Around) (outer:List Env) (s:Shared) (H:Hp) (args:Args) (us:List Value) (vs:List V) (Q:VK) (E:XK),RoomN k A->Env0 P w K mg base A outer s H->BindsTo s fd args (ps.zip us)->Vals vs us->sp vs H Q E ->
  codeAny (model P w) A (.call (.ref f) args) (CR CX0 outer P w H s Q E) s
theorem jlf {P:Program} {w:World} {K:PySem.W.Frag} {mg:Str->Option Value} {base:Heap} {k:Nat} {f:Addr} {name qual:Str} {params:Arguments} {body:List Stmt} {scope:Scope} {dV kV doc pm cdv ct oc:Value} {an od:Option Addr}
    {osl:Array (Option Value)} {N ps:List Str} {sp:Sp} (lk:K.lookup f=some ⟨oc,od,.func (PySem.W.fnOf name qual params body scope dV kV doc pm an cdv ct),osl⟩) (hcd:PySem.W.codeIn K cdv qual=true) (S:FnScope N ps scope)
    (len:∀vs H Q E,sp vs H Q E->vs.length=ps.length)
    (hbody:∀(A:Around) (outer:List Env) (s:Shared) (H:Hp) (vs:List V) (Q:VK) (E:XK),RoomN k (A.deeper (envOfC qual scope s.heap.objs.size f cdv))->sp vs H Q E ->
      ∃t,PSs (cxN P w K mg base N qual scope f cdv A outer s H) body t/\t { nx:=fun _ H'=>Q .non H',rt:=Q } (start N vs) H) :
    FnN P w K mg base (k+1) f (PySem.W.fnOf name qual params body scope dV kV doc pm an cdv ct) ps sp:=by
  refine⟨len,fun A outer s H args us vs Q E hr e0 hb r hsp=>?_⟩;have hl:=len _ _ _ _ hsp;have KX:K.In s.heap:=e0.mod.kin.keeps fun b o e=>(e0.bs b o e).1;have lim:s.heap.NoLimit:=e0.mod.nolimit.keeps fun b o e=>(e0.bs b o e).1;have hkind:∀y∈ps.zip us,scope.names.lookup y.1=some .local\/(scope.names.lookup y.1=some .cell/\((cellsFrom (s.heap.objs.size+1) scope.names []).lookup y.1).isSome=true):=fun ⟨n,v⟩ hy=>by
    rcases S.par n (xbs hy).1 with q | q
    . exact .inl q
    . exact .inr ⟨q,PySem.W.cellsFrom_some _ _ _ (.inl q)⟩
  refine codeAny_call_function hr.depth (KX _ _ lk) rfl S.co S.gen rfl (PySem.W.codeRec_of KX hcd) (hb _ _ _ _ ?_);refine wpAny_newFunctionEnv_cells S.kind hkind fun env he s1 x=>?_;subst he;refine⟨lim.keeps x.toInCall.keep,codeAny_func ?_⟩;obtain⟨t,ht,hq⟩:=hbody A outer s H vs Q E (hr.deeper _) hsp;have I:Inv (cxN P w K mg base N qual scope f cdv A outer s H) [] (start N vs) H s1:=jgO S e0 hl r x;refine wpAny_mono (ht [] s1 (start N vs) H _ I hq) (fun fl s' hs=>?_) fun e s' hs=>hs.elim;have fin:∀{σ':St} {H':Hp} {v:V} {u:Value},Inv (cxN P w K mg base N qual scope f cdv A outer s H) [] σ' H' s'->RelV v u->Q v H'->CE outer P w H s Q u s' :=
    fun {σ' H' v u} J rv q=>⟨v,H',J.os,J.bare,J.base,J.hok,rv,q⟩
  cases fl with
  | ret u =>
    obtain⟨v,σ',H',J,rv,q⟩:=hs;exact fin J rv q
  | next =>
    obtain⟨σ',H',J,q⟩:=hs;exact fin (v:=V.non) (u:=Value.none) J rfl q
  | brk =>
    obtain⟨_,_,_,q⟩:=hs;exact False.elim q
  | cont =>
    obtain⟨_,_,_,q⟩:=hs;exact False.elim q
def DefN (P:Program) (w:World) (K:PySem.W.Frag) (mg:Str->Option Value) (base:Heap) (k:Nat) (x:Str) (ps:List Str) (sp:Sp):Prop :=
 ∃f fd ds,FnN P w K mg base k f fd ps sp/\mg x=some (.ref f)/\PySem.W.keepIn K (.ref f)=true/\Binds K fd ps ds/\Vals [] ds
section
variable {P:Program} {w:World} {K:PySem.W.Frag} {mg:Str->Option Value} {base:Heap}
theorem At.okN {x:Str} {st:Stmt} {N ps:List Str} {k:Nat} {sp:Sp} (F:At K mg x st ps []) (S:FnScope N ps (jag st)) (len:∀vs H Q E,sp vs H Q E->vs.length=ps.length)
  (hbody:∀(f:Addr) (cdv:Value) (A:Around) (outer:List Env) (s:Shared) (H:Hp) (vs:List V) (Q:VK) (E:XK),RoomN k (A.deeper (envOfC x (jag st) s.heap.objs.size f cdv))->sp vs H Q E ->
   ∃t,PSs (cxN P w K mg base N x (jag st) f cdv A outer s H) (jaX st) t/\t { nx:=fun _ H'=>Q .non H',rt:=Q } (start N vs) H):DefN P w K mg base (k+1) x ps sp:=by
 obtain⟨f,fd,dV,ds,F1,hm,hb,hd⟩:=F;obtain⟨oc,od,kV,doc,pm,an,cdv,ct,osl,rfl,lk,hcd⟩:=F1.ex;exact⟨f,_,ds,jlf lk hcd S len fun A outer s H vs Q E hr hsp=>hbody f cdv A outer s H vs Q E hr hsp,hm,F1.kp,hb,hd⟩
end
section
variable {X:Cx} {k:Nat} {ps:List Str} {sp:Sp} {x:Str} {p pos:Pos} {e:Expr} {es:List Expr} {t:TA}
theorem jiH (D:DefN X.prog X.w X.K X.mg X.base k x ps sp) (hr:RoomN k X.A) (hg:Gl X x) (ha:PA X (e::es) t) (hdb:(x==("__debug__":Str))=false:=by decide)
    (he:starEach (e::es) X.env=(false,eval e X.env)::starEach es X.env:=by rfl) (hpl:(backTo pos (starEach es X.env)).any (·.1)=false:=by rfl):PE X (.Call (.Name x p) (e::es) [] pos) (jfx sp [] (fun _ _ _=>False) t):=by
  obtain⟨f,fd,ds,F,hm,hk,hb,hd⟩:=D;intro pins s σ H Q I h;refine wpAny_Call_Name_kw (jdf I hg hm ?_ hdb);refine PySem.W.callWith_K (h₀:=X.base) I.ok.mod.kin hk (thn (ha pos pins s σ H _ I h) fun us s1 ⟨vs,H1,I1,r,q⟩=>⟨I1.kIn,?_⟩) he hpl;have r2:Vals (vs++[]) (us++ds):=r.append hd;have hl:(us++ds).length=ps.length:=by rw[<- r2.length];exact F.len _ _ _ _ q
  refine wpAny_call (codeAny_mono (F.run X.A X.stack s1 H1 ⟨us,[]⟩ (us++ds) (vs++[]) Q _ hr I1.env0 (hb s1 us I1.kIn hl) r2 q) fun r s' hq=>?_);cases r with
  | error e=>exact (show False from hq).elim
  | ok fl =>
    cases fl with
    | ret u=>exact I1.after hq
    | next=>exact False.elim hq
    | brk=>exact False.elim hq
    | cont=>exact False.elim hq
def tCutE (M:St->Hp->St->Hp->Prop) (t u:TS):TS:=fun D σ H=>t { D with nx:=M σ H } σ H/\∀σ' H',M σ H σ' H'->u D σ' H'
theorem jiI {st:Stmt} {jbj:List Stmt} {t u:TS} (M:St->Hp->St->Hp->Prop) (h1:PS X st t) (h2:PSs X jbj u):PSs X (st::jbj) (tCutE M t u):=by
  intro pins s σ H D I h;refine wpAny_execs_cons (thn (h1 pins s σ H { D with nx:=M σ H } I h.1) fun f s1 q=>?_);cases f with
  | next =>
    obtain⟨σ',H',I',q⟩:=q;exact h2 pins s1 σ' H' D I' (h.2 σ' H' q)
  | ret v=>exact q
  | brk=>exact q
  | cont=>exact q
end
end L2
set_option maxHeartbeats 2000000
namespace My
def G (d:Int) (ns:List Int):Int:=ns.foldl (fun d n=>((Int.gcd d n:Nat):Int)) d
abbrev gl (ns:List Int):Int:=G 0 ns
theorem jgb (d n:Int) (r:List Int):G d (n::r)=G (Int.gcd d n:Nat) r:=rfl
theorem jlg (d:Int) (l:List Int) (n:Int):G d (l++[n])=(Int.gcd (G d l) n:Nat):=by
 unfold G;rw[List.foldl_append];rfl
theorem jgc:∀(ns:List Int) (d:Int),0<=d->0<=G d ns
 | [],_,h=>h
 | n::r,d,_=>by rw[jgb];exact jgc r _ (by omega)
theorem jbA (ns:List Int):0<=gl ns:=jgc ns 0 (by omega)
theorem jlh:∀(ns:List Int) (d:Int),G d ns ∣ d/\∀n∈ns,G d ns ∣ n
  | [],d=>⟨Int.dvd_refl d,fun n h=>nomatch h⟩
  | m :: r, d => by
    obtain⟨h1,h2⟩:=jlh r (Int.gcd d m:Nat);rw[jgb];refine⟨xbf h1 (xbn ..),fun n hn=>?_⟩;rcases xaf.mp hn with rfl | hn
    . exact xbf h1 (xbk ..)
    . exact h2 n hn
variable {ns:List Int}
theorem jba {n:Int} (h:n∈ns):gl ns ∣ n:=(jlh ns 0).2 n h
theorem jli:∀(ns:List Int) (d k:Int),k ∣ d->(∀n∈ns,k ∣ n)->k ∣ G d ns
  | [],_,_,h,_=>h
  | m :: r, d, k, h, hn => by
    rw[jgb];refine jli r _ k ?_ fun n h'=>hn n (xar _ h');have h2:=hn m xaE;exact xbt h h2
variable {k g c a d z j:Int}
theorem jfm (h:∀n∈ns,k ∣ n):k ∣ gl ns:=jli ns 0 k (Int.dvd_zero k) h
theorem jkd (h0:0<=k) (h:k ∣ 1):k=1:=by
 exact Int.eq_one_of_dvd_one h0 h
theorem jlj (hg:gl ns≠0):gl (ns.map (· / gl ns))=1:=by
 have h0:=jbA ns;refine jkd (jbA _) ?_;have h1:∀n∈ns,gl (ns.map (· / gl ns))*gl ns ∣ n:=fun n hn=>by
  obtain⟨c,hc⟩:=jba (ns:=ns.map (· / gl ns)) (xaB.mpr ⟨n,hn,rfl⟩);refine⟨c,?_⟩;have e:n=n / gl ns*gl ns:=(xaz (jba hn)).symm;rw[e,hc,Int.mul_assoc,Int.mul_comm c,<- Int.mul_assoc]
 obtain⟨c,hc⟩:=jfm h1;refine⟨c,?_⟩;have h2:gl ns*1=gl ns*(gl (ns.map (· / gl ns))*c):=by
  rw[Int.mul_one,<- Int.mul_assoc,Int.mul_comm (gl ns) (gl (ns.map (· / gl ns)))];exact hc
 exact Int.eq_of_mul_eq_mul_left hg h2
theorem jlk:∀ns:List Int,G 1 ns=1
  | []=>rfl
  | n :: r => by
    rw[jgb];have:Int.gcd 1 n=1:=by simp
    rw[this];exact jlk r
theorem jiJ (d:Int) (a b:List Int):G d (a++b)=G (G d a) b:=by
 unfold G;exact List.foldl_append
variable {n i f:Nat}
theorem jek (h:gl (ns.take i)=1):gl ns=1:=by
 have e:ns=ns.take i++ns.drop i:=(List.take_append_drop i ns).symm;rw[e];show G 0 _=1;rw[jiJ];have h':G 0 (ns.take i)=1:=h;rw[h'];exact jlk _
theorem jfn {n:Int} (h:ns[i]?=some n):gl (ns.take (i+1))=(Int.gcd (gl (ns.take i)) n:Nat):=by
 rw[xa4,h];exact jlg 0 _ n
theorem jfK (ns:List Int):ns.map (· / 1)=ns:=by
 induction ns with
 | nil=>rfl
 | cons a r ih=>rw[xaY,ih,Int.ediv_one]
theorem jgd (a b:Int) (ha:0<=a):Int.gcd b (a % b)=Int.gcd a b:=by
 have h1:(a % b).natAbs=a.natAbs % b.natAbs:=Int.natAbs_emod_of_nonneg ha b;rw[Int.gcd_eq_natAbs_gcd_natAbs,Int.gcd_eq_natAbs_gcd_natAbs,h1];rw[Nat.gcd_comm,Nat.gcd_comm a.natAbs,<- Nat.gcd_rec]
theorem jhG (a b:Int):Int.gcd (if a<0 then -a else a) (if b<0 then -b else b)=Int.gcd a b:=by
 split<;>split<;>simp [Int.gcd_neg,Int.neg_gcd]
theorem jgP (a b:Int):Int.gcd (if b>a then b else a) (if b<a then b else a)=Int.gcd a b:=by
 split<;>split
 ·omega
 ·exact Int.gcd_comm b a
 ·rfl
 ·have:a=b:=by omega
  rw[this]
theorem jge {n:Int} (h:n∈ns) (hn:n≠0):0<gl ns:=by
 have h0:=jbA ns;rcases Int.lt_or_eq_of_le h0 with h1 | h1
 ·exact h1
 ·obtain⟨c,hc⟩:=jba h;rw[<- h1,xbb] at hc;exact absurd hc hn
end My
namespace My
variable {k g c a d z j:Int}
theorem jfL {n:Int} (h:g ∣ n) (hn:n≠0):n / g≠0:=fun z=>by
 have e:=xaz h;rw[z,xbb] at e;exact hn e.symm
end My
local macro_rules | `(tactic| walk_at "cs") => `(tactic| exact .nest rfl rfl (by decide +kernel) (by decide +kernel) (by decide +kernel) (by decide +kernel) (by repeat (first | exact .nil | refine .cons rfl (.inl rfl) rfl ?_)))
local macro_rules | `(tactic| walk_at "rjs") => `(tactic| simp only [L2.start, L2.jjE, L2.jgv, L2.jjH, L2.jbL, L2.jgU, L2.tC, L2.tOp, L2.tUn, L2.jfw, L2.tB, L2.jjF, L2.jic, L2.jij, L2.jgV, L2.jfV, L2.jii, L2.jkO, L2.tOr, L2.jkP, L2.jig, L2.tOrV, L2.jih, L2.jfx, L2.tCB, L2.jeC, L2.jgD, L2.jjQ, L2.jjR, L2.jkR, L2.jk2, L2.tBM, L2.tyV, L2.jk5, L2.gk, and_self, L2.tSl, L2.jdR, L2.jhb, L2.ji7, L2.jey, L2.jjG, L2.jfu, and_assoc, L2.rI, L2.rI0, L2.rU, L2.rEq, L2.rNe, L2.jkF, List.map_cons, List.map_nil, List.length_cons, List.length_nil, List.replicate_succ, List.replicate_zero, List.cons_append, List.nil_append, List.append_nil, Nat.reduceSub, Nat.reduceAdd, Nat.sub_self, List.set_cons_zero, List.set_cons_succ, List.getElem?_cons_zero, List.getElem?_cons_succ, Option.some.injEq, exists_eq_left', exists_eq_left, L2.V.int.injEq, L2.V.bl.injEq, L2.V.ref.injEq, L2.V.ty.injEq, List.cons.injEq, exists_and_left, and_true, true_and, reduceCtorEq, false_and, and_false, exists_false, or_false, false_or, L2.jaL, Option.getD_some, Bool.true_eq_false, decide_eq_true_eq, Bool.not_eq_true', decide_eq_false_iff_not, decide_not, Bool.false_eq_true, if_true, if_false, ite_not])
local macro_rules | `(tactic| walk_at "rj") => `(tactic| first | ((dsimp only [L2.start, L2.jjE, L2.jgv, L2.jjH, L2.jbL, L2.jgU, L2.tC, L2.tOp, L2.tUn, L2.jfw, L2.tB, L2.jjF, L2.jic, L2.jij, L2.jgV, L2.jfV, L2.jii, L2.jkO, L2.tOr, L2.jkP, L2.jig, L2.tOrV, L2.jih, L2.jfx, L2.tCB, L2.jeC, L2.jgD, L2.jjQ, L2.jjR, L2.jkR, L2.jk2, L2.tBM, L2.tyV, L2.jk5, L2.gk, L2.tSl, L2.jdR, L2.jhb, L2.ji7, L2.jey, L2.jjG, L2.jfu, L2.rI, L2.rI0, L2.rU, L2.rEq, L2.rNe, L2.jkF, L2.jaL, List.map_cons, List.map_nil, List.length_cons, List.length_nil, List.replicate_succ, List.replicate_zero, List.cons_append, List.nil_append, List.set_cons_zero, List.set_cons_succ, List.getElem?_cons_zero, List.getElem?_cons_succ, Option.getD_some, Nat.reduceSub, Nat.reduceAdd]); (try walk_at "rjs")) | walk_at "rjs")
local macro_rules | `(tactic| walk_at "go") => `(tactic| repeat (first | refine L2.ixT (by assumption) rfl ?_ | refine L2.ixL (by assumption) rfl ?_ | refine And.intro (by assumption) ?_ | walk_at "rj"))
local macro_rules | `(tactic| walk_at "ris") => `(tactic| simp only [L2.start, L2.jjE, L2.jgv, L2.jjH, L2.jbL, L2.jgU, L2.tC, L2.tOp, L2.tUn, L2.jfw, L2.tB, L2.jjF, L2.jic, L2.jij, L2.jgV, L2.jfV, L2.jii, L2.jkO, L2.tOr, L2.jkP, L2.jig, L2.tOrV, L2.jih, L2.jfx, L2.tCB, L2.jeC, L2.jgD, L2.jjQ, L2.jjR, L2.jkR, L2.jk2, L2.tBM, L2.tyV, L2.jk5, L2.gk, and_self, L2.tSl, L2.jdR, L2.jhb, L2.ji7, L2.jey, L2.jjG, L2.jfu, and_assoc, L2.rI, L2.rI0, L2.rU, L2.rEq, L2.rNe, L2.jkF, List.map_cons, List.map_nil, List.length_cons, List.length_nil, List.replicate_succ, List.replicate_zero, List.cons_append, List.nil_append, List.append_nil, Nat.reduceSub, Nat.reduceAdd, Nat.sub_self, List.set_cons_zero, List.set_cons_succ, List.getElem?_cons_zero, List.getElem?_cons_succ, Option.some.injEq, exists_eq_left', exists_eq_left, L2.V.int.injEq, L2.V.bl.injEq, L2.V.ref.injEq, L2.V.ty.injEq, List.cons.injEq, exists_and_left, and_true, true_and, reduceCtorEq, false_and, and_false, exists_false, or_false, false_or, L2.jaL, Option.getD_some, Bool.true_eq_false, decide_eq_true_eq, Bool.not_eq_true', decide_eq_false_iff_not, decide_not, Bool.false_eq_true, if_true, if_false, ite_not, L2.jhp, L2.jhq, L2.jjc, L2.jjd, L2.jf5, L2.jf6, L2.jhr, L2.jhs, L2.jje, L2.jhu, L2.jf1, L2.V.str.injEq, L2.jf7, L2.jeH, L2.jf8, L2.jjf])
local macro_rules | `(tactic| walk_at "ri") => `(tactic| first | ((dsimp only [L2.start, L2.jjE, L2.jgv, L2.jjH, L2.jbL, L2.jgU, L2.tC, L2.tOp, L2.tUn, L2.jfw, L2.tB, L2.jjF, L2.jic, L2.jij, L2.jgV, L2.jfV, L2.jii, L2.jkO, L2.tOr, L2.jkP, L2.jig, L2.tOrV, L2.jih, L2.jfx, L2.tCB, L2.jeC, L2.jgD, L2.jjQ, L2.jjR, L2.jkR, L2.jk2, L2.tBM, L2.tyV, L2.jk5, L2.gk, L2.tSl, L2.jdR, L2.jhb, L2.ji7, L2.jey, L2.jjG, L2.jfu, L2.rI, L2.rI0, L2.rU, L2.rEq, L2.rNe, L2.jkF, L2.jaL, L2.jhp, L2.jhq, L2.jjc, L2.jjd, L2.jf5, L2.jf6, L2.jhr, L2.jhs, L2.jje, L2.jhu, L2.jf1, L2.jf7, L2.jeH, L2.jf8, L2.jjf, List.map_cons, List.map_nil, List.length_cons, List.length_nil, List.replicate_succ, List.replicate_zero, List.cons_append, List.nil_append, List.set_cons_zero, List.set_cons_succ, List.getElem?_cons_zero, List.getElem?_cons_succ, Option.getD_some, Nat.reduceSub, Nat.reduceAdd]); (try walk_at "ris")) | walk_at "ris")
local macro_rules | `(tactic| walk_at "sd") => `(tactic| first | assumption | exact L2.Fit.o (by omega) (by omega) | (show L2.CPow _ _; exact ⟨by decide, by decide, by decide⟩) | decide)
local macro_rules | `(tactic| walk_at "gf") => `(tactic| repeat (first | ((with_reducible apply L2.ixT); assumption; rfl) | ((with_reducible apply L2.ixL); assumption; rfl) | ((with_reducible apply L2.FoR.lst); assumption) | ((with_reducible apply L2.FoR.tup); assumption) | ((with_reducible apply L2.FoR.len); assumption) | ((with_reducible apply L2.FoR.lenT); assumption) | ((with_reducible apply And.intro); (walk_at "sd")) | walk_at "ri"))
local macro_rules | `(tactic| walk_at "sc") => `(tactic| exact ⟨rfl, rfl, rfl, by decide +kernel, rfl, by decide +kernel, by decide +kernel⟩)
local macro_rules | `(tactic| walk_at "rd") => `(tactic| try walk_at "rj")
local macro_rules | `(tactic| walk_at "rf") => `(tactic| try walk_at "ri")
namespace My
open PySem L2 PyProof.Rows
def top (i:Nat):Stmt:=PySem.Challenge.pw_boardsight_k81_whole_all_taken_back.main.body.getD i (.Pass ⟨0,0,0,0⟩)
abbrev jdZ:Stmt:=top 11
abbrev jbh:Stmt:=top 13
abbrev jbk:Stmt:=top 14
abbrev jd0:Stmt:=top 15
abbrev jbY:Stmt:=top 16
abbrev jbM:Stmt:=top 18
abbrev jd1:Stmt:=top 19
abbrev jdp:Stmt:=top 20
abbrev jd2:Stmt:=top 21
abbrev jck:Stmt:=top 23
abbrev jbN:Stmt:=top 24
abbrev jdq:Stmt:=top 25
abbrev jbZ:Stmt:=top 26
abbrev jbB:Stmt:=top 27
abbrev jb0:Stmt:=top 28
abbrev jd3:Stmt:=top 29
abbrev jeL:Stmt:=top 32
abbrev jcT:Stmt:=top 33
abbrev jbO:Stmt:=top 34
abbrev jcU:Stmt:=top 35
abbrev jcl:Stmt:=top 36
abbrev jd4:Stmt:=top 40
abbrev jbC:Stmt:=jbU (top 41) 0
abbrev jbP:Stmt:=jbU (top 41) 1
abbrev jdr:Stmt:=jbU (top 41) 2
abbrev jcV:Stmt:=jbU (top 41) 3
abbrev jcW:Stmt:=jbU (top 41) 4
abbrev jcm:Stmt:=jbU (top 41) 6
abbrev jb1:Stmt:=jbU (top 41) 7
abbrev jbD:Stmt:=jbU (top 41) 8
abbrev jcn:Stmt:=jbU (top 41) 9
abbrev jb2:Stmt:=top 43
abbrev jbQ:Stmt:=top 44
abbrev jco:Stmt:=top 45
abbrev jbE:Stmt:=top 46
abbrev jcp:Stmt:=top 47
abbrev jb3:Stmt:=top 48
abbrev jcX:Stmt:=top 49
abbrev jcq:Stmt:=top 50
abbrev jcY:Stmt:=top 51
abbrev jb4:Stmt:=top 52
abbrev jb5:Stmt:=top 53
abbrev jcr:Stmt:=top 54
abbrev jcs:Stmt:=top 55
abbrev jds:Stmt:=top 56
abbrev jcZ:Stmt:=top 57
abbrev jct:Stmt:=top 58
abbrev jb6:Stmt:=top 59
abbrev jeM:Stmt:=top 60
def Small (i:Int):Prop:=i.natAbs<2^1990
theorem Small.neg {i:Int} (h:Small i):Small (-i):=by unfold Small at *;rw[Int.natAbs_neg];exact h
theorem Small.ite {c:Prop} [Decidable c] {i j:Int} (h:Small i) (h':Small j):Small (if c then i else j):=by split<;>assumption
theorem Small.bd {i:Int} (h:Small i):Bd 1990 i:=h
theorem Small.of {i:Int} (h1:-1606938044258990275541962092341162602522202993782792835301376<i) (h2:i<1606938044258990275541962092341162602522202993782792835301376):Small i:=(Bd.of h1 h2).mono
variable {k g c a d z j:Int}
theorem Small.div {i:Int} (h:Small i):Small (i / g):=xaQ (xa0 i g) h
variable {ns:List Int}
theorem jgf (h:∀n∈ns,Small n):Small (gl ns):=by
 by_cases c:∃n∈ns,n≠0
 ·obtain⟨n,hn,h0⟩:=c;have z:=Int.natAbs_dvd_natAbs.mpr (jba hn);exact xaQ (Nat.le_of_dvd (by omega) z) (h n hn)
 ·have z:(0:Int) ∣ gl ns:=jfm fun n hn=>by
   have:n=0:=Classical.byContradiction fun q=>c ⟨n,hn,q⟩;rw[this];exact Int.dvd_refl 0
  rw[Int.zero_dvd.mp z];exact Nat.two_pow_pos _
variable {H H' H1:Hp}
theorem Same.keep {p:Addr} {o:HO} (h:Same H H') (n:H p=none):Same H (upd H' p o):=fun b u q=>by rw[jat (jaD q n)];exact h b u q
variable {n i f:Nat}
theorem jji {v:V} (h:(ns.map V.int)[i]?=some v):∃z,v=V.int z/\ns[i]?=some z:=by
 rw[xak] at h;cases e:ns[i]? with
 | none=>rw[e] at h;cases h
 | some z=>rw[e] at h;exact⟨z,(Option.some.inj h).symm,rfl⟩
def spGd:Sp:=fun vs H Q _=>∃a b:Int,vs=[.int a,.int b]/\Small a/\Small b/\Q (.int (Int.gcd a b:Nat)) H
def jke:Sp:=fun vs H Q _=>∃(a:Addr) (ns:List Int),vs=[.ref a]/\H a=some (.tup (ns.map V.int))/\ns.length<=10/\(∀n∈ns,Small n)/\gl ns≠0 /\
 ∀(r:Addr) (H':Hp),Same H H'->H' r=some (.tup ((ns.map (· / gl ns)).map V.int))->Q (.ref r) H'
def jiK (K:PySem.W.Frag):Sp:=fun vs H Q _=>∃(a:Addr) (ns:List Int),vs=[.ref a]/\SqL K H a (ns.map V.int)/\ns.length<=63/\∀H',Q (.bl true) H'
structure Tx (K:PySem.W.Frag) (mg:Str->Option Value) (t1 t2:Tok):Prop where
 m_abs:mg "abs"=none
 m_max:mg "max"=none
 m_min:mg "min"=none
 m_len:mg "len"=none
 m_all:mg "all"=none
 m_range:mg "range"=none
 m_tuple:mg "tuple"=none
 m_list:mg "list"=none
 m_str:mg "str"=none
 m_isinstance:mg "isinstance"=none
 m_reversed:mg "reversed"=none
 m_SHORT_BITS:mg "SHORT_BITS"=some (.int 2000 t1)
 m_MOST_CORNERS:mg "MOST_CORNERS"=some (.int 8 t2)
 e_MOST_LETTERS:∃v,mg "MOST_LETTERS"=some v/\RelV (.int 8) v
 e_MOST_BOARDS:∃v,mg "MOST_BOARDS"=some v/\RelV (.int 6) v
theorem Tx.m_MOST_LETTERS {K:PySem.W.Frag} {mg:Str->Option Value} {t1 t2:Tok} (T:Tx K mg t1 t2):mg "MOST_LETTERS"=some T.e_MOST_LETTERS.choose:=T.e_MOST_LETTERS.choose_spec.1
theorem Tx.r_MOST_LETTERS {K:PySem.W.Frag} {mg:Str->Option Value} {t1 t2:Tok} (T:Tx K mg t1 t2):RelV (.int 8) T.e_MOST_LETTERS.choose:=T.e_MOST_LETTERS.choose_spec.2
theorem Tx.m_MOST_BOARDS {K:PySem.W.Frag} {mg:Str->Option Value} {t1 t2:Tok} (T:Tx K mg t1 t2):mg "MOST_BOARDS"=some T.e_MOST_BOARDS.choose:=T.e_MOST_BOARDS.choose_spec.1
theorem Tx.r_MOST_BOARDS {K:PySem.W.Frag} {mg:Str->Option Value} {t1 t2:Tok} (T:Tx K mg t1 t2):RelV (.int 6) T.e_MOST_BOARDS.choose:=T.e_MOST_BOARDS.choose_spec.2
theorem Tx.r_SHORT_BITS {K:PySem.W.Frag} {mg:Str->Option Value} {t1 t2:Tok} (_:Tx K mg t1 t2):RelV (.int 2000) (.int 2000 t1):=⟨_,rfl⟩
theorem Tx.r_MOST_CORNERS {K:PySem.W.Frag} {mg:Str->Option Value} {t1 t2:Tok} (_:Tx K mg t1 t2):RelV (.int 8) (.int 8 t2):=⟨_,rfl⟩
def low (ns:List Int):List Int:=ns.map (· / gl ns)
def Sm2 (i:Int):Prop:=i.natAbs<2^200
theorem Sm2.bd {i:Int} (h:Sm2 i):Bd 1990 i:=Bd.mono (n:=200) h
theorem Sm2.of {i:Int} (h1:-1606938044258990275541962092341162602522202993782792835301376<i) (h2:i<1606938044258990275541962092341162602522202993782792835301376):Sm2 i:=Bd.of h1 h2
theorem Sm2.div {i:Int} (h:Sm2 i):Sm2 (i / g):=xaQ (xa0 i g) h
structure Pt where
 x:Int
 y:Int
 z:Int
 w:Int
def Pt.sm (p:Pt):Prop:=Sm2 p.x/\Sm2 p.y/\Sm2 p.z/\Sm2 p.w
def Is4 (H:Hp) (r:Addr) (p:Pt):Prop:=H r=some (.tup [.int p.x,.int p.y,.int p.z,.int p.w])/\p.sm
variable {r l y S Y SE pL sd:Addr}
variable {p:Pt}
theorem Is4.keep (h:Is4 H r p) (s:Same H H'):Is4 H' r p:=⟨s _ _ h.1,h.2⟩
theorem Is4.sq {K:PySem.W.Frag} (h:Is4 H r p):SqT K H r [.int p.x,.int p.y,.int p.z,.int p.w]:=SqT.of h.1
theorem Pt.sm.fx (h:p.sm):Fit p.x:=h.1.bd.fit
theorem Pt.sm.fy (h:p.sm):Fit p.y:=h.2.1.bd.fit
theorem Pt.sm.fz (h:p.sm):Fit p.z:=h.2.2.1.bd.fit
theorem Pt.sm.fw (h:p.sm):Fit p.w:=h.2.2.2.bd.fit
def wo (k:Int) (p:Pt):List Int:=if k=0 then [p.y,p.z,p.w] else if k=1 then [p.x,p.z,p.w] else if k=2 then [p.x,p.y,p.w] else [p.x,p.y,p.z]
def det3 (a b c x y z u v w:Int):Int:=(b*z-c*y)*u+(c*x-a*z)*v+(a*y-b*x)*w
def detL:List Int->List Int->List Int->Int
 | [a,b,c],[x,y,z],[u,v,w]=>det3 a b c x y z u v w
 | _,_,_=>0
def jaG (k:Int) (p q r:Pt):Int:=detL (wo k p) (wo k q) (wo k r)
def inl (p q r:Pt):Bool:=decide (jaG 0 p q r=0/\jaG 1 p q r=0/\jaG 2 p q r=0)
def Tup3 (H:Hp) (r:Addr) (a b c:Int):Prop:=H r=some (.tup [.int a,.int b,.int c])/\Sm2 a/\Sm2 b/\Sm2 c
def jhH:Sp:=fun vs H Q _=>∃(r p:Addr) (a b c x y z:Int),vs=[.ref r,.ref p]/\Tup3 H r a b c/\Tup3 H p x y z /\
 ∀(t:Addr) (H':Hp),Same H H'->H' t=some (.tup [.int (b*z-c*y),.int (c*x-a*z),.int (a*y-b*x)])->Q (.ref t) H'
def jll:Sp:=fun vs H Q _=>∃(r p s:Addr) (a b c x y z u v w:Int),vs=[.ref r,.ref p,.ref s]/\Tup3 H r a b c/\Tup3 H p x y z/\Tup3 H s u v w/\∀H':Hp,Same H H'->Q (.int (det3 a b c x y z u v w)) H'
def jfo:Sp:=fun vs H Q _=>∃(r:Addr) (k:Int) (p:Pt),vs=[.ref r,.int k]/\Is4 H r p/\0<=k/\k<=3/\∀(t:Addr) (H':Hp),Same H H'->H' t=some (.tup ((wo k p).map V.int))->Q (.ref t) H'
def jeN:Sp:=fun vs H Q _=>∃(r s t:Addr) (k:Int) (p q o:Pt),vs=[.ref r,.ref s,.ref t,.int k]/\Is4 H r p/\Is4 H s q/\Is4 H t o/\0<=k/\k<=3/\∀H':Hp,Same H H'->Q (.int (jaG k p q o)) H'
def jjj:Sp:=fun vs H Q _=>∃(r s t:Addr) (p q o:Pt),vs=[.ref r,.ref s,.ref t]/\Is4 H r p/\Is4 H s q/\Is4 H t o/\∀H':Hp,Same H H'->Q (.bl (inl p q o)) H'
def jgg:Sp:=fun vs H Q _=>∃(r:Addr) (ns:List Int),vs=[.ref r]/\H r=some (.tup (ns.map V.int))/\ns.length<=10/\∀(t:Addr) (H':Hp),Same H H'->H' t=some (.tup ((ns.map fun n=>-n).map V.int))->Q (.ref t) H'
def plb (a b c:Int):Bool:=if a≠0 then decide (0<a) else if b≠0 then decide (0<b) else if c≠0 then decide (0<c) else false
def jhI:Sp:=fun vs H Q _=>∃(r:Addr) (a b c d:Int),vs=[.ref r]/\H r=some (.tup [.int a,.int b,.int c,.int d])/\∀H':Hp,Same H H'->Q (.bl (plb a b c)) H'
def rgh (p o u:Pt):List Int:=[jaG 0 p o u,-jaG 1 p o u,jaG 2 p o u,jaG 3 p o u]
def jhJ:Sp:=fun vs H Q _=>∃(r e t:Addr) (p o u:Pt),vs=[.ref r,.ref e,.ref t]/\Is4 H r p/\Is4 H e o/\Is4 H t u/\∀(g:Addr) (H':Hp),Same H H'->H' g=some (.tup ((rgh p o u).map V.int))->Q (.ref g) H'
def pln (ns:List Int):List Int:=match low ns with
 | [a,b,c,d]=>if plb a b c=true then [a,b,c,d] else [-a,-b,-c,-d]
 | l=>l
def jfM (p o u:Pt):Prop:=jaG 0 p o u=0/\jaG 1 p o u=0/\jaG 2 p o u=0
def hgt (a b c d:Int) (p:Pt):Int:=a*p.x+b*p.y+c*p.z-d*p.w
def sgn (n:Int):Int:=if n>0 then 1 else if n<0 then -1 else 0
def jhK:Sp:=fun vs H Q _=>∃n:Int,vs=[.int n]/\Q (.int (sgn n)) H
def sf (x y z w x' y' z' w':Int):Bool:=if x*w'≠x'*w then decide (x*w'<x'*w) else if y*w'≠y'*w then decide (y*w'<y'*w) else if z*w'≠z'*w then decide (z*w'<z'*w) else false
def sfp (p o:Pt):Bool:=sf p.x p.y p.z p.w o.x o.y o.z o.w
def jhL:Sp:=fun vs H Q _=>∃(r e:Addr) (p o:Pt),vs=[.ref r,.ref e]/\Is4 H r p/\Is4 H e o/\Q (.bl (sfp p o)) H
def jhM:Sp:=fun vs H Q _=>∃a b c d:Int,vs=[.int a,.int b,.int c,.int d]/\Small a/\Small b/\Small c/\Small d/\¬(a=0/\b=0/\c=0)/\∀(r:Addr) (H':Hp),Same H H'->H' r=some (.tup ((low [a,b,c,d]).map V.int))->Q (.ref r) H'
def jfp:Sp:=fun vs H Q _=>∃(r e t:Addr) (p o u:Pt),vs=[.ref r,.ref e,.ref t]/\Is4 H r p/\Is4 H e o/\Is4 H t u/\¬jfM p o u/\∀(g:Addr) (H':Hp),Same H H'->H' g=some (.tup ((pln (rgh p o u)).map V.int))->Q (.ref g) H'
def spHt:Sp:=fun vs H Q _=>∃(r e:Addr) (a b c d:Int) (p:Pt),vs=[.ref r,.ref e]/\H r=some (.tup [.int a,.int b,.int c,.int d])/\Small a/\Small b/\Small c/\Small d/\Is4 H e p/\Q (.int (hgt a b c d p)) H
def jjk:Sp:=fun vs H Q _=>∃(r e:Addr) (a b c d:Int) (p:Pt),vs=[.ref r,.ref e]/\H r=some (.tup [.int a,.int b,.int c,.int d])/\Small a/\Small b/\Small c/\Small d/\Is4 H e p/\Q (.int (sgn (hgt a b c d p))) H
inductive Sps (H:Hp):List Addr->List Pt->Prop
 | nil:Sps H [] []
 | cons {r:Addr} {p:Pt} {rs:List Addr} {ps:List Pt} (h:Is4 H r p) (t:Sps H rs ps):Sps H (r::rs) (p::ps)
variable {rs M:List Addr}
variable {ps:List Pt}
theorem Sps.keep (h:Sps H rs ps) (s:SameT H H'):Sps H' rs ps:=by
 induction h with
 | nil=>exact .nil
 | cons h _ ih=>exact .cons ⟨s _ _ h.1,h.2⟩ ih
theorem Sps.len (h:Sps H rs ps):rs.length=ps.length:=by
 induction h with
 | nil=>rfl
 | cons h _ ih=>rw[xax,xax,ih]
theorem Sps.app {rs':List Addr} {ps':List Pt} (h:Sps H rs ps) (k:Sps H rs' ps'):Sps H (rs++rs') (ps++ps'):=by
 induction h with
 | nil=>exact k
 | cons h _ ih=>exact .cons h ih
theorem Sps.rev (h:Sps H rs ps):Sps H rs.reverse ps.reverse:=by
  induction h with
  | nil=>exact .nil
  | cons h _ ih =>
    rw[xaO,xaO];exact ih.app (.cons h .nil)
theorem Sps.drop (h:Sps H rs ps):∀n,Sps H (rs.drop n) (ps.drop n):=by
  induction h with
  | nil=>intro n;rw[xbz,xbz];exact .nil
  | cons h k ih =>
    intro n;cases n with
    | zero=>exact .cons h k
    | succ n=>exact ih n
theorem Sps.take (h:Sps H rs ps):∀n,Sps H (rs.take n) (ps.take n):=by
  induction h with
  | nil=>intro n;rw[xbq,xbq];exact .nil
  | cons h k ih =>
    intro n;cases n with
    | zero=>exact .nil
    | succ n=>exact .cons h (ih n)
def p0:Pt:=⟨0,0,0,0⟩
def pt (ps:List Pt) (i:Nat):Pt:=ps.getD i p0
def ad (rs:List Addr) (i:Nat):Addr:=rs.getD i 0
theorem Sps.get (h:Sps H rs ps):∀{i:Nat},i<ps.length->(rs.map V.ref)[i]?=some (.ref (ad rs i))/\Is4 H (ad rs i) (pt ps i):=by
  induction h with
  | nil=>intro i hi;exact absurd hi (by simp)
  | cons h k ih =>
    intro i hi;cases i with
    | zero=>exact⟨rfl,h⟩
    | succ i=>exact ih (by simpa using hi)
theorem jdK {α:Type} {xs:List α} {v:α} (hn:xs.length=n+1) (h:xs[n]?=some v):atI xs (-1)=some v:=by
 have e:xs=xs.take n++[v]:=by
  have z:=xa4 (l:=xs) (i:=n);rw[h,<- hn,xaX] at z;exact z
 rw[e];exact jiy _ _
variable {xs:List V}
theorem jbv :jeD xs (some (f:Int)) none=xs.drop f:=by
 unfold jeD;rw[HT.sIx_nat,HT.sIx_none];by_cases h:f<=xs.length
 ·rw[Nat.min_eq_left h,xbh (by rw[xaq];exact xac _)]
 ·rw[Nat.min_eq_right (by omega),List.drop_of_length_le (xac _),List.drop_of_length_le (by omega),xbq]
theorem jbm :jeD xs none (some (f:Int))=xs.take f:=by
 unfold jeD;rw[HT.sIx_nat,HT.sIx_none];by_cases h:f<=xs.length
 ·rw[Nat.min_eq_left h];rfl
 ·rw[Nat.min_eq_right (by omega)];show xs.take (xs.length-0)=_;rw[Nat.sub_zero,xaX,xbh (by omega)]
def jhN (ps:List Pt):Nat->Nat
 | 0=>0
 | i+1=>if sfp (pt ps (i+1)) (pt ps (jhN ps i))=true then i+1 else jhN ps i
theorem jfN (ps:List Pt):∀i,jhN ps i<=i
  | 0=>xac _
  | i + 1 => by
    have:=jfN ps i;unfold jhN;split<;>omega
def rot {α:Type} (f:Nat) (l:List α):List α:=l.drop f++l.take f
def turn {α:Type} (b:Bool) (l:List α):List α:=if b=true then l.take 1++(l.drop 1).reverse else l
def fF (ps:List Pt):Nat:=jhN ps (ps.length-1)
def fB (ps:List Pt):Bool:=sfp (pt (rot (fF ps) ps) (ps.length-1)) (pt (rot (fF ps) ps) 1)
def frm {α:Type} (ps:List Pt) (l:List α):List α:=turn (fB ps) (rot (fF ps) l)
theorem Sps.rot (h:Sps H rs ps) (f:Nat):Sps H (rot f rs) (rot f ps):=(h.drop f).app (h.take f)
theorem Sps.turn (h:Sps H rs ps) (b:Bool):Sps H (turn b rs) (turn b ps):=by
 unfold My.turn;cases b
 ·exact h
 ·exact (h.take 1).app (h.drop 1).rev
theorem Sps.frm {qs:List Pt} (h:Sps H rs qs):Sps H (frm ps rs) (frm ps qs):=(h.rot _).turn _
def Cor (H:Hp) (l:Addr) (rs:List Addr) (ps:List Pt):Prop:=H l=some (.lst (rs.map V.ref))/\Sps H rs ps
theorem Cor.keep (h:Cor H l rs ps) (s:Same H H'):Cor H' l rs ps:=⟨s _ _ h.1,h.2.keep s.t⟩
def jgh:Sp:=fun vs H Q _=>∃(l:Addr) (rs:List Addr) (ps:List Pt),vs=[.ref l]/\Cor H l rs ps/\3<=ps.length/\ps.length<=8 /\
 ∀(t:Addr) (H':Hp),Same H H'->H' t=some (.tup ((frm ps rs).map V.ref))->Q (.ref t) H'
def jjl:Sp:=fun vs H Q _=>∃(r:Addr) (a b c d:Int),vs=[.ref r]/\H r=some (.tup [.int a,.int b,.int c,.int d])/\¬(a=0/\b=0/\c=0)/\∀k:Int,(k=0/\a≠0)\/(k=1/\a=0/\b≠0)\/(k=2/\a=0/\b=0/\c≠0)->Q (.int k) H
def jjm:Sp:=fun vs H Q _=>∃(g r e t:Addr) (k:Int) (p o u:Pt),vs=[.ref g,.ref t,.int k]/\H g=some (.tup [.ref r,.ref e])/\Is4 H r p/\Is4 H e o/\Is4 H t u/\0<=k/\k<=3/\∀H':Hp,Same H H'->Q (.int (sgn (jaG k p o u))) H'
def Rnd (k:Int) (ps:List Pt):Prop:=∀i j,i<ps.length->1<=j->j<ps.length-1->sgn (jaG k (pt ps ((i+(ps.length-1)) % ps.length)) (pt ps i) (pt ps ((i+j) % ps.length)))=sgn (jaG k (pt ps 0) (pt ps 1) (pt ps 2))
section
variable {P:Program} {w:World} {K:PySem.W.Frag} {mg:Str->Option Value} {base:Heap} {t1 t2:Tok}
theorem jeq:FnScope ["number"] ["number"] (jag jdZ):=by walk_at "sc"
theorem jbF:FnScope ["one","other","great","small","steps","rest"] ["one","other"] (jag jbh):=by walk_at "sc"
theorem jbJ:FnScope ["numbers","divisor","number"] ["numbers"] (jag jbk):=by walk_at "sc"
theorem jer:FnScope ["one","other"] ["one","other"] (jag jd0):=by walk_at "sc"
theorem jcG:FnScope ["one","other","third","arrow"] ["one","other","third"] (jag jbY):=by walk_at "sc"
theorem jcu:FnScope ["one","other","k","mine","yours"] ["one","other"] (jag jbM):=by walk_at "sc"
theorem jes:FnScope ["spot","place"] ["spot","place"] (jag jd1):=by walk_at "sc"
theorem jd5:FnScope ["one","other","third","place"] ["one","other","third","place"] (jag jdp):=by walk_at "sc"
theorem jet:FnScope ["one","other","third","place"] ["one","other","third"] (jag jd2):=by walk_at "sc"
theorem jc3:FnScope ["a","b","c","d"] ["a","b","c","d"] (jag jck):=by walk_at "sc"
theorem jcv:FnScope ["plane"] ["plane"] (jag jbN):=by walk_at "sc"
theorem jd6:FnScope ["plane","number"] ["plane"] (jag jdq):=by walk_at "sc"
theorem jcH:FnScope ["one","other","third"] ["one","other","third"] (jag jbZ):=by walk_at "sc"
theorem jca:FnScope ["one","other","third","rough","plane"] ["one","other","third"] (jag jbB):=by walk_at "sc"
theorem jcI:FnScope ["plane","spot"] ["plane","spot"] (jag jb0):=by walk_at "sc"
theorem jeu:FnScope ["plane","spot"] ["plane","spot"] (jag jd3):=by walk_at "sc"
theorem jfq:FnScope ["corners","first","k","ring"] ["corners"] (jag jeL):=by walk_at "sc"
theorem jdy:FnScope ["plane","axis"] ["plane"] (jag jcT):=by walk_at "sc"
theorem jcw:FnScope ["edge","spot","axis"] ["edge","spot","axis"] (jag jbO):=by walk_at "sc"
theorem jdz:FnScope ["corners","axis","turn","many","k","edge","ahead"] ["corners","axis"] (jag jcU):=by walk_at "sc"
theorem jc4:FnScope ["corners","plane","corner"] ["corners"] (jag jcl):=by walk_at "sc"
theorem jev:FnScope ["text"] ["text"] (jag jd4):=by walk_at "sc"
theorem jcb:FnScope ["self"] ["self"] (jag jbC):=by walk_at "sc"
theorem jcx:FnScope ["self","standing"] ["self","standing"] (jag jbP):=by walk_at "sc"
theorem jd7:FnScope ["self","name","corners","board"] ["self","name","corners"] (jag jdr):=by walk_at "sc"
theorem jdA:FnScope ["self","name","place"] ["self","name"] (jag jcV):=by walk_at "sc"
theorem jdB:FnScope ["self"] ["self"] (jag jcW):=by walk_at "sc"
theorem jc5:FnScope ["self"] ["self"] (jag jcm):=by walk_at "sc"
theorem jcJ:FnScope ["self"] ["self"] (jag jb1):=by walk_at "sc"
theorem jcc:FnScope ["self","name","names"] ["self","name"] (jag jbD):=by walk_at "sc"
theorem jc6:FnScope ["self"] ["self"] (jag jcn):=by walk_at "sc"
theorem jcK:FnScope ["script","k","cell","turn","left","j","prime","number"] ["script","k"] (jag jb2):=by walk_at "sc"
theorem jcy:FnScope ["one","other"] ["one","other"] (jag jbQ):=by walk_at "sc"
theorem jc7:FnScope ["number","letters","many","word","k","at","names","sign"] ["number"] (jag jco):=by walk_at "sc"
theorem jcd:FnScope ["number","name","at"] ["number","name"] (jag jbE):=by walk_at "sc"
theorem jc8:FnScope ["number","way"] ["number"] (jag jcp):=by walk_at "sc"
theorem jcL:FnScope ["number","p","q"] ["number"] (jag jb3):=by walk_at "sc"
theorem jdC:FnScope ["number","shape","most","w","p","q","start","rows"] ["number"] (jag jcX):=by walk_at "sc"
theorem jc9:FnScope ["rows","w","spots","row","by"] ["rows","w"] (jag jcq):=by walk_at "sc"
theorem jdD:FnScope ["rows","w","at","some"] ["rows","w"] (jag jcY):=by walk_at "sc"
theorem jcM:FnScope ["rows","number","at","some"] ["rows","number"] (jag jb4):=by walk_at "sc"
theorem jcN:FnScope ["rows","number","way","at","a","b","up"] ["rows","number"] (jag jb5):=by walk_at "sc"
theorem jda:FnScope ["e"] ["e"] (jag jcr):=by walk_at "sc"
theorem jdb:FnScope ["yard","deed","found","flags","e"] ["yard","deed"] (jag jcs):=by walk_at "sc"
theorem jd8:FnScope ["names","number","more","rows","w","name","form","spots"] ["names","number","more"] (jag jds):=by walk_at "sc"
theorem jdE:FnScope ["yard"] ["yard"] (jag jcZ):=by walk_at "sc"
theorem jdc:FnScope ["yard","deeds","stood","deed","found","flags"] ["yard","deeds","stood"] (jag jct):=by walk_at "sc"
theorem jcO:FnScope ["yard","stood","many","k"] ["yard","stood","many"] (jag jb6):=by walk_at "sc"
theorem jjn:FnScope ["script","names","yard","stood","all_deeds","k","number","deed","again"] ["script"] (jag jeM):=by walk_at "sc"
theorem ok_gd (T:Tx K mg t1 t2) (F:At K mg "greatest_divisor" jbh ["one","other"] []):jaw P w K mg base CX0 1 "greatest_divisor" ["one","other"] [] spGd:=by
 refine F.ok jbF (fun vs H Q E h=>?_) (fun f cdv A outer s H vs Q E hr h=>?_)
 ·obtain⟨a,b,rfl,_⟩:=h;rfl
 obtain⟨a,b,rfl,ha,hb,q⟩:=h;have S:=jbF;refine⟨_,(jad (jal (i:=2) S.nd rfl (Or.inl rfl) (jau (je1 rfl) rfl T.m_max boot_max (jaa (jau jbH rfl T.m_abs boot_abs (jaa (pv 0) jac jaf)) (jaa (jau jbH rfl T.m_abs boot_abs (jaa (pv 1) jac jaf)) jac jaH) jaH)))
  (jad (jal (i:=3) S.nd rfl (Or.inl rfl) (jau (jg4 rfl) rfl T.m_min boot_min (jaa (jau jbH rfl T.m_abs boot_abs (jaa (pv 0) jac jaf)) (jaa (jau jbH rfl T.m_abs boot_abs (jaa (pv 1) jac jaf)) jac jaH) jaH)))
  (jad (jez PassesOwn.never (jam jeg (jhf PySem.F.plainAttrs_int PySem.F.slot_int_bit_length PySem.F.type_int_bit_length jj1 (pv 3)) (jce rfl T.m_SHORT_BITS T.r_SHORT_BITS) (jar _)) jeX)
  (jad (jez PassesOwn.never (jam jeA (pv 3) jab (jar _))
  (jad (jal (i:=5) S.nd rfl (Or.inl rfl) (jah jaB (pv 2) (pv 3)))
  (jad (jal (i:=2) S.nd rfl (Or.inl rfl) (pv 3))
  (jae (jal (i:=3) S.nd rfl (Or.inl rfl) (pv 5))))))
  (jae (jap (pv 2))))))),?_⟩
 walk_at "rd";have hg:Int.gcd (if (if b<0 then -b else b)>(if a<0 then -a else a) then (if b<0 then -b else b) else (if a<0 then -a else a)) (if (if b<0 then -b else b)<(if a<0 then -a else a) then (if b<0 then -b else b) else (if a<0 then -a else a))=Int.gcd a b:=(jgP _ _).trans (jhG a b);have hM:0<=(if (if b<0 then -b else b)>(if a<0 then -a else a) then (if b<0 then -b else b) else (if a<0 then -a else a)):=by split<;>split<;>omega
 have hm:0<=(if (if b<0 then -b else b)<(if a<0 then -a else a) then (if b<0 then -b else b) else (if a<0 then -a else a)):=by split<;>split<;>omega
 have hs:Small (if (if b<0 then -b else b)<(if a<0 then -a else a) then (if b<0 then -b else b) else (if a<0 then -a else a)):=by
  exact Small.ite (Small.ite hb.neg hb) (Small.ite ha.neg ha)
 generalize (if (if b<0 then -b else b)>(if a<0 then -a else a) then (if b<0 then -b else b) else (if a<0 then -a else a))=M at hg hM |-
 generalize (if (if b<0 then -b else b)<(if a<0 then -a else a) then (if b<0 then -b else b) else (if a<0 then -a else a))=m at hg hm hs |-
 have hz:Builtin.Int.intBits m<=1990:=L2.jdn hs;refine⟨fun _ σ H1=>σ=[some (.int a),some (.int b),some (.int M),some (.int m),none,none]/\H1=H,⟨0,rfl,rfl⟩,?_⟩;rintro _ σ H1 ⟨rfl,rfl⟩;walk_at "rd";rw[if_neg (by omega)];refine⟨fun n σ H2=>H2=H1/\∃(x y:Int) (o:Option V),σ=[some (.int a),some (.int b),some (.int x),some (.int y),none,o]/\0<=x/\0<=y/\Int.gcd x y=Int.gcd a b/\n=y.toNat,⟨_,rfl,M,m,none,rfl,hM,hm,hg,rfl⟩,?_⟩;rintro n σ H2 ⟨rfl,x,y,o,rfl,hx,hy,hgg,rfl⟩;walk_at "rd";by_cases c:y=0
 ·subst c;rw[if_pos rfl];rw[<- hgg,Int.gcd_zero_right] at q;have e2:((x.natAbs:Nat):Int)=x:=by omega
  rw[e2] at q;exact q
 ·rw[if_neg c];have b1:=xap x c;have b2:=xal x (show 0<y by omega);exact⟨fun σ' H'=>σ'=[some (V.int a),some (V.int b),some (V.int y),some (V.int (x % y)),none,some (V.int (x % y))]/\H'=H2,fun σ' H' ⟨h1,h2⟩=>⟨_,by omega,h2,y,x % y,_,h1,by omega,b1,(jgd x y hx).trans hgg,rfl⟩,by omega,rfl,rfl⟩
theorem jlm (T:Tx K mg t1 t2) (F:At K mg "in_lowest_terms" jbk ["numbers"] []) (dB:jaw P w K mg base CX0 1 "greatest_divisor" ["one","other"] [] spGd):jaw P w K mg base CX0 2 "in_lowest_terms" ["numbers"] [] jke:=by
 refine F.ok jbJ (fun vs H Q E h=>?_) (fun f cdv A outer s H vs Q E hr h=>?_)
 ·obtain⟨a,ns,rfl,_⟩:=h;rfl
 obtain⟨a,ns,rfl,ha,hl,hs,hg,q⟩:=h;have S:=jbJ;refine⟨_,(jad (jal (i:=1) S.nd rfl (Or.inr rfl) jab)
  (jad (jbo PassesOwn.never rfl (jfY (pv 0)) (jax (i:=2) S.nd rfl (Or.inl rfl))
  (jad (jal (i:=1) S.nd rfl (Or.inr rfl) (jai dB hr.m rfl jaA (jaa (pv 1) (jaa (pv 2) jac jaf) jaf)))
  (jae (jaR (jam jbp (pv 1) jab (jar _))
  (jae (jap (jbc jbg rfl T.m_tuple boot_tuple (jaa (pv 0) jac jaf))))
  jaq))))
  (jae (jap (jbc jbg rfl T.m_tuple boot_tuple (jaa (ja6 rfl (N':=["number","divisor"]) (ix:=[1]) (by walk_at "cs") (jfY (pv 0)) (fun _ _ _ _=>jax (i:=0) (show (["number","divisor"]:List Str).Nodup from by decide +kernel) rfl (Or.inl rfl)) (fun _ _ _ _=>jbb) (fun _ _ _ _=>(jah jas (pv 0) (pv 1)))) jac jep)))))),?_⟩
 walk_at "rd";refine⟨_,rfl,a,rfl,⟨_,SqT.of ha⟩,jgZ (K:=K) (a:=a) (xs:=ns.map V.int) (fun i σ H2=>H2=H/\∃o:Option V,σ=[some (.ref a),some (.int (gl (ns.take i))),o]) ⟨rfl,none,rfl⟩ (fun i σ H2 _ ⟨h,_⟩=>by rw[h];exact SqT.of ha) ?_ ?_⟩
 ·rintro i v σ H2 hi ⟨rfl,o,rfl⟩;obtain⟨z,rfl,hz⟩:=jji hi;walk_at "rd";refine⟨_,_,rfl,jgf fun n hn=>hs n (xaH hn),hs z (xay hz),?_⟩;walk_at "rd";rw[<- jfn hz];refine jbR (fun c=>⟨_,.inr ⟨SqT.of ha,?_⟩⟩) fun c=>⟨rfl,_,rfl⟩;have g1:gl ns=1:=jek c;refine q a H2 (Same.refl _) ?_;rw[g1,jfK];exact ha
 ·rintro σ H2 ⟨rfl,o,rfl⟩;walk_at "rd";have el:(ns.map V.int).length=ns.length:=xaa _;rw[el,xaX];have gp:0<gl ns:=by have:=jbA ns;omega
  refine⟨_,rfl,a,rfl,⟨_,SqT.of ha⟩,fun acc hacc=>jf4 (K:=K) (a:=a) (zs:=ns.map V.int) (fun i xs H3=>Same H2 H3/\H3 acc=some (.lst xs)/\xs=((ns.take i).map (· / gl ns)).map V.int) ⟨Same.new hacc _,upd_same,rfl⟩ (fun i xs H3 _ h=>h.1.tup (SqT.of ha)) ?_ ?_⟩
  ·rintro i v xs H3 hi ⟨h1,h2,rfl⟩;obtain⟨z,rfl,hz⟩:=jji hi;walk_at "rd";have li:=(xai.mp hz).1;refine⟨gp,(jgf hs).bd.fit,h2,?_,Same.keep h1 hacc,upd_same,?_⟩
   ·rw[xaa,xaa,xag];exact jhj (by omega)
   ·rw[xa4,hz,xaj,xaj];rfl
  ·rintro xs H3 ⟨h1,h2,rfl⟩;rw[el,xaX] at h2;exact⟨acc,rfl,_,.inl ⟨SqL.of h2,fun l hl=>q l _ (h1.trans (Same.new hl _)) upd_same⟩⟩
theorem jgQ (T:Tx K mg t1 t2) (F:At K mg "crossed" jd0 ["one","other"] []):jaw P w K mg base CX0 1 "crossed" ["one","other"] [] jhH:=by
 refine F.ok jer (fun vs H Q E h=>?_) (fun f cdv A outer s H vs Q E hr h=>?_)
 ·obtain⟨r,p,a,b,c,x,y,z,rfl,_⟩:=h;rfl
 obtain⟨r,p,a,b,c,x,y,z,rfl,⟨h1,sa,sb,sc⟩,⟨h2,sx,sy,sz⟩,q⟩:=h;have S:=jer;refine⟨_,(jae (jap (ja5 (jaa (jah ja2 (jah jav (jak jaC (pv 0) jab) (jak jaC (pv 1) jab)) (jah jav (jak jaC (pv 0) jab) (jak jaC (pv 1) jab))) (jaa (jah ja2 (jah jav (jak jaC (pv 0) jab) (jak jaC (pv 1) jab)) (jah jav (jak jaC (pv 0) jab) (jak jaC (pv 1) jab))) (jaa (jah ja2 (jah jav (jak jaC (pv 0) jab) (jak jaC (pv 1) jab)) (jah jav (jak jaC (pv 0) jab) (jak jaC (pv 1) jab))) jac jaM) jaM) jaM)))),?_⟩;have k1:SqT K H r [.int a,.int b,.int c]:=SqT.of h1;have k2:SqT K H p [.int x,.int y,.int z]:=SqT.of h2;have fa:=sa.bd.fit;have fb:=sb.bd.fit;have fc:=sc.bd.fit;have fx:=sx.bd.fit;have fy:=sy.bd.fit;have fz:=sz.bd.fit;walk_at "rf";walk_at "gf";intro t ht;exact q t _ (Same.new ht _) upd_same
theorem jln (T:Tx K mg t1 t2) (F:At K mg "determinant" jbY ["one","other","third"] []) (Dk:jaw P w K mg base CX0 1 "crossed" ["one","other"] [] jhH):jaw P w K mg base CX0 2 "determinant" ["one","other","third"] [] jll:=by
 refine F.ok jcG (fun vs H Q E h=>?_) (fun f cdv A outer s H vs Q E hr h=>?_)
 ·obtain⟨r,p,e,a,b,c,x,y,z,u,v,o,rfl,_⟩:=h;rfl
 obtain⟨r,p,e,a,b,c,x,y,z,u,v,o,rfl,h1,h2,h3,q⟩:=h;have S:=jcG;refine⟨_,(jad (jal (i:=3) S.nd rfl (Or.inl rfl) (jai Dk hr.m rfl jaA (jaa (pv 0) (jaa (pv 1) jac jaf) jaf)))
  (jae (jap (jah ja9 (jah ja9 (jah jav (jak jaC (pv 3) jab) (jak jaC (pv 2) jab)) (jah jav (jak jaC (pv 3) jab) (jak jaC (pv 2) jab))) (jah jav (jak jaC (pv 3) jab) (jak jaC (pv 2) jab)))))),?_⟩
 walk_at "rf";refine⟨r,p,a,b,c,x,y,z,rfl,h1,h2,fun t H1 s1 e1=>?_⟩;have k1:SqT K H1 t _:=SqT.of e1;have k2:SqT K H1 e [.int u,.int v,.int o]:=SqT.of (s1 _ _ h3.1);have fu:=h3.2.1.bd.fit;have fv:=h3.2.2.1.bd.fit;have fo:=h3.2.2.2.bd.fit;have ma:∀{i j k l:Int},Sm2 i->Sm2 j->Sm2 k->Sm2 l->Fit (i*j-k*l):=fun h1 h2 h3 h4=>Bd.fit (n:=401) (Bd.sub (Bd.mul (n:=200) (m:=200) h1 h2) (Bd.mul (n:=200) (m:=200) h3 h4));have g1:=ma h1.2.2.1 h2.2.2.2 h1.2.2.2 h2.2.2.1;have g2:=ma h1.2.2.2 h2.2.1 h1.2.1 h2.2.2.2;have g3:=ma h1.2.1 h2.2.2.1 h1.2.2.1 h2.2.1;walk_at "gf";exact q _ s1
theorem jgR (T:Tx K mg t1 t2) (F:At K mg "without" jd1 ["spot","place"] []):jaw P w K mg base CX0 1 "without" ["spot","place"] [] jfo:=by
  refine F.ok jes (fun vs H Q E h=>?_) (fun f cdv A outer s H vs Q E hr h=>?_)
  . obtain⟨r,k,p,rfl,_⟩:=h
    rfl
  obtain⟨r,k,p,rfl,h1,k0,k3,q⟩:=h;have S:=jes;refine⟨_,(jae (jap (jbc jbg rfl T.m_tuple boot_tuple (jaa (ja6 rfl (N':=["k","spot","place"]) (ix:=[0,1]) (by walk_at "cs") (jaE rfl T.m_range (jaa jab jac jaj)) (fun _ _ _ _=>jax (i:=0) (show (["k","spot","place"]:List Str).Nodup from by decide +kernel) rfl (Or.inl rfl)) (fun _ _ _ _=>(jjY (jam jeA (pv 0) (pv 2) (jar _)))) (fun _ _ _ _=>(jak (jj2 (K:=K) rfl) (pv 1) (pv 0)))) jac jep)))),?_⟩;have k_h1:=h1.sq (K:=K);have e:k=0\/k=1\/k=2\/k=3:=by omega
  walk_at "rf";walk_at "gf";intro acc hacc;refine jj3 (n:=4) (fun i=>.int (match i with | 0=>p.x | 1=>p.y | 2=>p.z | _=>p.w)) (fun i=>!decide ((i:Int)=k)) (by decide) hacc ?_ ?_ ?_
  . intro i H3 R hi s3 hR
    walk_at "rf";have z:=hR H3 (Same.refl _);rw[Int.zero_add];exact z
  . intro i H3 R hi ci s3 hR
    have k1:=s3.tup k_h1
    match i,hi with
    | 0, _ =>
      walk_at "rf";walk_at "gf";exact hR _ (Same.refl _)
    | 1, _ =>
      walk_at "rf";walk_at "gf";exact hR _ (Same.refl _)
    | 2, _ =>
      walk_at "rf";walk_at "gf";exact hR _ (Same.refl _)
    | 3, _ =>
      walk_at "rf";walk_at "gf";exact hR _ (Same.refl _)
  intro H1 s1 e1;refine FoR.tupOf (X:=True) (SqL.of e1) fun t H2 s2 e2=>q t H2 (s1.trans s2) ?_;rw[e2];rcases e with rfl | rfl | rfl | rfl<;>rfl
theorem jhO (hp:p.sm) (h:H r=some (.tup ((wo k p).map V.int))):∃a b c,wo k p=[a,b,c]/\Tup3 H r a b c:=by
 by_cases k0:k=0
 ·have e:wo k p=[p.y,p.z,p.w]:=if_pos k0;rw[e] at h;exact⟨_,_,_,e,h,hp.2.1,hp.2.2.1,hp.2.2.2⟩
 by_cases k1:k=1
 ·have e:wo k p=[p.x,p.z,p.w]:=by unfold wo;rw[if_neg k0,if_pos k1]
  rw[e] at h;exact⟨_,_,_,e,h,hp.1,hp.2.2.1,hp.2.2.2⟩
 by_cases k2:k=2
 ·have e:wo k p=[p.x,p.y,p.w]:=by unfold wo;rw[if_neg k0,if_neg k1,if_pos k2]
  rw[e] at h;exact⟨_,_,_,e,h,hp.1,hp.2.1,hp.2.2.2⟩
 have e:wo k p=[p.x,p.y,p.z]:=by unfold wo;rw[if_neg k0,if_neg k1,if_neg k2]
 rw[e] at h;exact⟨_,_,_,e,h,hp.1,hp.2.1,hp.2.2.1⟩
theorem Tup3.keep {b:Int} (h:Tup3 H r a b c) (s:Same H H'):Tup3 H' r a b c:=⟨s _ _ h.1,h.2⟩
theorem jiL (T:Tx K mg t1 t2) (F:At K mg "minor_of" jdp ["one","other","third","place"] []) (dq:jaw P w K mg base CX0 1 "without" ["spot","place"] [] jfo) (dI:jaw P w K mg base CX0 2 "determinant" ["one","other","third"] [] jll):jaw P w K mg base CX0 3 "minor_of" ["one","other","third","place"] [] jeN:=by
 refine F.ok jd5 (fun vs H Q E h=>?_) (fun f cdv A outer s H vs Q E hr h=>?_)
 ·obtain⟨r,e,t,k,p,o,u,rfl,_⟩:=h;rfl
 obtain⟨r,e,t,k,p,o,u,rfl,h1,h2,h3,k0,k3,q⟩:=h;have S:=jd5;refine⟨_,(jae (jap (jai dI hr.m rfl jaA (jaa (jai dq hr.m rfl jaA (jaa (pv 0) (jaa (pv 3) jac jaf) jaf)) (jaa (jai dq hr.m rfl jaA (jaa (pv 1) (jaa (pv 3) jac jaf) jaf)) (jaa (jai dq hr.m rfl jaA (jaa (pv 2) (jaa (pv 3) jac jaf) jaf)) jac jaH) jaH) jaH)))),?_⟩;walk_at "rf";refine⟨r,k,p,rfl,h1,k0,k3,fun t1 H1 s1 e1=>?_⟩;refine⟨e,k,o,rfl,h2.keep s1,k0,k3,fun t2 H2 s2 e2=>?_⟩;refine⟨t,k,u,rfl,h3.keep (s1.trans s2),k0,k3,fun t3 H3 s3 e3=>?_⟩;obtain⟨a,b,c,w1,z1⟩:=jhO h1.2 e1;obtain⟨a2,b2,c2,w2,z2⟩:=jhO h2.2 e2;obtain⟨a3,b3,c3,w3,z3⟩:=jhO h3.2 e3;have em:jaG k p o u=det3 a b c a2 b2 c2 a3 b3 c3:=by
  unfold jaG;rw[w1,w2,w3];rfl
 refine⟨t1,t2,t3,a,b,c,a2,b2,c2,a3,b3,c3,rfl,z1.keep (s2.trans s3),z2.keep s3,z3,fun H4 s4=>?_⟩;rw[<- em];exact q H4 (s1.trans (s2.trans (s3.trans s4)))
theorem jkf (T:Tx K mg t1 t2) (F:At K mg "in_line" jd2 ["one","other","third"] []) (de:jaw P w K mg base CX0 3 "minor_of" ["one","other","third","place"] [] jeN):jaw P w K mg base CX0 4 "in_line" ["one","other","third"] [] jjj:=by
  refine F.ok jet (fun vs H Q E h=>?_) (fun f cdv A outer s H vs Q E hr h=>?_)
  . obtain⟨r,e,t,p,o,u,rfl,_⟩:=h
    rfl
  obtain⟨r,e,t,p,o,u,rfl,h1,h2,h3,q⟩:=h;have S:=jet;refine⟨_,(jad (jbo PassesOwn.never rfl (jaE rfl T.m_range (jaa jab jac jaj)) (jax (i:=3) S.nd rfl (Or.inl rfl))
    (jae (jaR (jam jeA (jai de hr.m rfl jaA (jaa (pv 0) (jaa (pv 1) (jaa (pv 2) (jaa (pv 3) jac jaf) jaf) jaf) jaf)) jab (jar _))
    (jae (jap jbq))
    jaq)))
    (jae (jap jbq))),?_⟩
  walk_at "rf";walk_at "gf";refine ja8 (lo:=0) (n:=3) (fun i σ H2=>Same H H2/\∃o3:Option V,σ=[some (.ref r),some (.ref e),some (.ref t),o3]/\(1<=i->jaG 0 p o u=0)/\(2<=i->jaG 1 p o u=0)/\(3<=i->jaG 2 p o u=0)) ⟨Same.refl _,none,rfl,by simp,by simp,by simp⟩ ?_ ?_
  . rintro i σ H2 hi ⟨s2,o3,rfl,e0,e1,e2⟩
    walk_at "rf";refine⟨r,e,t,_,p,o,u,rfl,h1.keep s2,h2.keep s2,h3.keep s2,by omega,by omega,fun H3 s3=>?_⟩;have ei:(0:Int)+(i:Int)=(i:Int):=Int.zero_add _;rw[ei]
    match i,hi with
    | 0, _ =>
      walk_at "rf";refine jbR (fun c=>⟨s2.trans s3,fun _=>c,fun h=>absurd h (by decide),fun h=>absurd h (by decide)⟩) fun c=>?_;have ef:inl p o u=false:=decide_eq_false fun z=>c z.1;exact ef▸q H3 (s2.trans s3)
    | 1, _ =>
      have d0:=e0 (by decide);walk_at "rf";refine jbR (fun c=>⟨s2.trans s3,fun _=>d0,fun _=>c,fun h=>absurd h (by decide)⟩) fun c=>?_;have ef:inl p o u=false:=decide_eq_false fun z=>c z.2.1;exact ef▸q H3 (s2.trans s3)
    | 2, _ =>
      have d0:=e0 (by decide);have d1:=e1 (by decide);walk_at "rf";refine jbR (fun c=>⟨s2.trans s3,fun _=>d0,fun _=>d1,fun _=>c⟩) fun c=>?_;have ef:inl p o u=false:=decide_eq_false fun z=>c z.2.2;exact ef▸q H3 (s2.trans s3)
  . rintro σ H2 ⟨s2,o3,rfl,e0,e1,e2⟩
    have ef:inl p o u=true:=decide_eq_true ⟨e0 (by decide),e1 (by decide),e2 (by decide)⟩;exact ef▸q H2 s2
theorem mem4 {b:Int} (ha:Small a) (hb:Small b) (hc:Small c) (hd:Small d):∀n∈[a,b,c,d],Small n:=fun n hn=>by
 simp only[xaf,xam,or_false] at hn;rcases hn with rfl | rfl | rfl | rfl<;>assumption
theorem gl4 {b:Int} (h:¬(a=0/\b=0/\c=0)):0<gl [a,b,c,d]:=by
 by_cases c1:a=0
 ·by_cases c2:b=0
  ·exact jge (n:=c) (by simp) fun z=>h ⟨c1,c2,z⟩
  ·exact jge (n:=b) (by simp) c2
 ·exact jge (n:=a) (by simp) c1
def vneg (v:V):V:=match v with | .int i=>.int (-i) | _=>v
theorem jiM (ns:List Int):(ns.map V.int).map vneg=(ns.map fun n=>-n).map V.int:=by
 rw[xbl,xbl];rfl
theorem jhP (T:Tx K mg t1 t2) (F:At K mg "turned_about" jbN ["plane"] []):jaw P w K mg base CX0 1 "turned_about" ["plane"] [] jgg:=by
 refine F.ok jcv (fun vs H Q E h=>?_) (fun f cdv A outer s H vs Q E hr h=>?_)
 ·obtain⟨r,ns,rfl,_⟩:=h;rfl
 obtain⟨r,ns,rfl,h1,hl,q⟩:=h;have S:=jcv;refine⟨_,(jae (jap (jbc jbg rfl T.m_tuple boot_tuple (jaa (ja6 rfl (N':=["number"]) (ix:=[]) (by walk_at "cs") (jfY (pv 0)) (fun _ _ _ _=>jax (i:=0) (show (["number"]:List Str).Nodup from by decide +kernel) rfl (Or.inl rfl)) (fun _ _ _ _=>jbb) (fun _ _ _ _=>(jdF jb7 (pv 0)))) jac jep)))),?_⟩;have k1:SqT K H r (ns.map V.int):=SqT.of h1;walk_at "rf";walk_at "gf";intro acc hacc;refine compT vneg (by rw[xaa];omega) hacc k1 ?_ ?_
 ·intro z H3 R hz s3 hR;obtain⟨m,hm,rfl⟩:=xaB.mp hz;walk_at "rd";exact hR _ (Same.refl _)
 intro H1 s1 e1;rw[jiM] at e1;exact FoR.tupOf (X:=True) (SqL.of e1) fun t H2 s2 e2=>q t H2 (s1.trans s2) e2
theorem jkg (T:Tx K mg t1 t2) (F:At K mg "sign_of" jdZ ["number"] []):jaw P w K mg base CX0 1 "sign_of" ["number"] [] jhK:=by
 refine F.ok jeq (fun vs H Q E h=>?_) (fun f cdv A outer s H vs Q E hr h=>?_)
 ·obtain⟨a,rfl,_⟩:=h;rfl
 obtain⟨n,rfl,q⟩:=h;have S:=jeq;refine⟨_,(jad (jaR (jam jeg (pv 0) jab (jar _))
  (jae (jap jab))
  jaq)
  (jad (jaR (jam jjL (pv 0) jab (jar _))
  (jae (jap (jdF jb7 jab)))
  jaq)
  (jae (jap jab)))),?_⟩
 unfold sgn at q;walk_at "rd";refine jbR (fun c=>?_) fun c=>jbR (fun c1=>?_) fun c1=>?_
 ·rw[if_pos c] at q;exact q
 ·rw[if_neg c,if_pos c1] at q;exact q
 ·rw[if_neg c,if_neg c1] at q;exact q
theorem jiN (T:Tx K mg t1 t2) (F:At K mg "is_plain" jdq ["plane"] []):jaw P w K mg base CX0 1 "is_plain" ["plane"] [] jhI:=by
  refine F.ok jd6 (fun vs H Q E h=>?_) (fun f cdv A outer s H vs Q E hr h=>?_)
  . obtain⟨r,a,b,c,d,rfl,_⟩:=h
    rfl
  obtain⟨r,a,b,c,d,rfl,h1,q⟩:=h;have S:=jd6;refine⟨_,(jad (jbo PassesOwn.never rfl (jfY (jaO jk0 (pv 0) jaJ (jaK jab))) (jax (i:=1) S.nd rfl (Or.inl rfl))
    (jae (jaR (jam jeA (pv 1) jab (jar _))
    (jae (jap (jg3 jeg (pv 1) jab (jar _))))
    jaq)))
    (jae (jap jbq))),?_⟩
  walk_at "rf";refine⟨r,_,rfl,SqT.of h1,(show ¬(HT.sIx 4 0 none=0/\HT.sIx 4 4 (some 3)=4) by decide),fun p hp=>?_⟩;have sp:=Same.new hp (.tup (jeD [.int a,.int b,.int c,.int d] none (some 3)));have ep:upd H p (.tup (jeD [.int a,.int b,.int c,.int d] none (some 3))) p=some (.tup ([a,b,c].map V.int)):=upd_same;generalize upd H p (.tup (jeD [.int a,.int b,.int c,.int d] none (some 3)))=H1 at sp ep |-
  have kp:SqT K H1 p ([a,b,c].map V.int):=SqT.of ep;walk_at "gf";have q:=q H1 sp;unfold plb at q;refine jgZ (K:=K) (a:=p) (xs:=[a,b,c].map V.int) (fun i σ H2=>H2=H1/\∃o1:Option V,σ=[some (.ref r),o1]/\(1<=i->a=0)/\(2<=i->b=0)/\(3<=i->c=0)) ⟨rfl,none,rfl,by simp,by simp,by simp⟩ (fun i σ H2 _ ⟨h,_⟩=>by rw[h];exact kp) ?_ ?_
  . rintro i v σ H2 hi ⟨rfl,o1,rfl,e0,e1,e2⟩
    match i,hi with
    | 0, hi =>
      cases hi;walk_at "rf";refine jbR (fun cc=>⟨fun _=>cc,fun h=>absurd h (by decide),fun h=>absurd h (by decide)⟩) fun cc=>?_;rw[if_pos cc] at q;exact q
    | 1, hi =>
      cases hi;have d0:=e0 (by decide);walk_at "rf";refine jbR (fun cc=>⟨fun _=>d0,fun _=>cc,fun h=>absurd h (by decide)⟩) fun cc=>?_;rw[if_neg (fun n=>n d0),if_pos cc] at q;exact q
    | 2, hi =>
      cases hi;have d0:=e0 (by decide);have d1:=e1 (by decide);walk_at "rf";refine jbR (fun cc=>⟨fun _=>d0,fun _=>d1,fun _=>cc⟩) fun cc=>?_;rw[if_neg (fun n=>n d0),if_neg (fun n=>n d1),if_pos cc] at q;exact q
  . rintro σ H2 ⟨rfl,o1,rfl,e0,e1,e2⟩
    rw[if_neg (fun n=>n (e0 (show 1<=3 by decide))),if_neg (fun n=>n (e1 (show 2<=3 by decide))),if_neg (fun n=>n (e2 (show 3<=3 by decide)))] at q;exact q
theorem jiO (T:Tx K mg t1 t2) (F:At K mg "rough_plane" jbZ ["one","other","third"] []) (de:jaw P w K mg base CX0 3 "minor_of" ["one","other","third","place"] [] jeN):jaw P w K mg base CX0 4 "rough_plane" ["one","other","third"] [] jhJ:=by
 refine F.ok jcH (fun vs H Q E h=>?_) (fun f cdv A outer s H vs Q E hr h=>?_)
 ·obtain⟨r,e,t,p,o,u,rfl,_⟩:=h;rfl
 obtain⟨r,e,t,p,o,u,rfl,h1,h2,h3,q⟩:=h;have S:=jcH;refine⟨_,(jae (jap (ja5 (jaa (jai de hr.m rfl jaA (jaa (pv 0) (jaa (pv 1) (jaa (pv 2) (jaa jab jac jaj) jaf) jaf) jaf)) (jaa (jdF jb7 (jai de hr.m rfl jaA (jaa (pv 0) (jaa (pv 1) (jaa (pv 2) (jaa jab jac jaj) jaf) jaf) jaf))) (jaa (jai de hr.m rfl jaA (jaa (pv 0) (jaa (pv 1) (jaa (pv 2) (jaa jab jac jaj) jaf) jaf) jaf)) (jaa (jai de hr.m rfl jaA (jaa (pv 0) (jaa (pv 1) (jaa (pv 2) (jaa jab jac jaj) jaf) jaf) jaf)) jac jaH) jaH) se_un) jaH)))),?_⟩;walk_at "rf";refine⟨r,e,t,0,p,o,u,rfl,h1,h2,h3,by decide,by decide,fun H1 s1=>?_⟩;refine⟨r,e,t,1,p,o,u,rfl,h1.keep s1,h2.keep s1,h3.keep s1,by decide,by decide,fun H2 s2=>?_⟩;have s12:=s1.trans s2;walk_at "rf";refine⟨r,e,t,2,p,o,u,rfl,h1.keep s12,h2.keep s12,h3.keep s12,by decide,by decide,fun H3 s3=>?_⟩;have s13:=s12.trans s3;refine⟨r,e,t,3,p,o,u,rfl,h1.keep s13,h2.keep s13,h3.keep s13,by decide,by decide,fun H4 s4=>?_⟩;exact⟨by decide,fun g hg=>q g _ (s13.trans (s4.trans (Same.new hg _))) upd_same⟩
theorem jgi {b x y u v w:Int} (ha:Sm2 a) (hb:Sm2 b) (hc:Sm2 c) (hx:Sm2 x) (hy:Sm2 y) (hz:Sm2 z) (hu:Sm2 u) (hv:Sm2 v) (hw:Sm2 w):Bd 603 (det3 a b c x y z u v w):=by
 have m:∀{i j k l e:Int},Sm2 i->Sm2 j->Sm2 k->Sm2 l->Sm2 e->Bd 601 ((i*j-k*l)*e):=fun h1 h2 h3 h4 h5=>Bd.mul (n:=401) (m:=200) (Bd.sub (Bd.mul (n:=200) (m:=200) h1 h2) (Bd.mul (n:=200) (m:=200) h3 h4)) h5;exact Bd.add (Bd.add (m hb hz hc hy hu) (m hc hx ha hz hv)) (Bd.mono (n:=601) (m ha hy hb hx hw))
theorem jgj {o u:Pt} (hp:p.sm) (ho:o.sm) (hu:u.sm):Small (jaG 0 p o u)/\Small (jaG 1 p o u)/\Small (jaG 2 p o u)/\Small (jaG 3 p o u):=by
 obtain⟨a,b,c,d⟩:=hp;obtain⟨a',b',c',d'⟩:=ho;obtain⟨a2,b2,c2,d2⟩:=hu;exact⟨Bd.mono (n:=603) (jgi b c d b' c' d' b2 c2 d2),Bd.mono (n:=603) (jgi a c d a' c' d' a2 c2 d2),Bd.mono (n:=603) (jgi a b d a' b' d' a2 b2 d2),Bd.mono (n:=603) (jgi a b c a' b' c' a2 b2 c2)⟩
theorem jiP (T:Tx K mg t1 t2) (F:At K mg "made_plane" jck ["a","b","c","d"] []) (dC:jaw P w K mg base CX0 2 "in_lowest_terms" ["numbers"] [] jke):jaw P w K mg base CX0 3 "made_plane" ["a","b","c","d"] [] jhM:=by
 refine F.ok jc3 (fun vs H Q E h=>?_) (fun f cdv A outer s H vs Q E hr h=>?_)
 ·obtain⟨a,b,c,d,rfl,_⟩:=h;rfl
 obtain⟨a,b,c,d,rfl,sa,sb,sc,sd,nz,q⟩:=h;have S:=jc3;refine⟨_,(jad (jaR (PW.pt (jdv (jam jbp (pv 0) jab (jar _)) (jdv (jam jbp (pv 1) jab (jar _)) (jdg (jam jbp (pv 2) jab (jar _))))))
  jeX
  jaq)
  (jae (jap (jai dC hr.m rfl jaA (jaa (ja5 (jaa (pv 0) (jaa (pv 1) (jaa (pv 2) (jaa (pv 3) jac jaf) jaf) jaf) jaf)) jac jaY))))),?_⟩
 have fin:∀p,H p=none->jke [.ref p] (upd H p (.tup [.int a,.int b,.int c,.int d])) Q (fun _ _ _=>False):=fun p hp =>
  ⟨p,[a,b,c,d],rfl,upd_same,by simp,mem4 sa sb sc sd,by have:=gl4 (d:=d) nz;omega,fun r H' h1 h2=>q r H' ((Same.new hp _).trans h1) h2⟩
 walk_at "rf";by_cases c1:a=0
 ·rw[if_pos c1];by_cases c2:b=0
  ·rw[if_pos c2];by_cases c3:c=0
   ·exact absurd ⟨c1,c2,c3⟩ nz
   ·rw[if_neg c3];exact⟨by decide,fin⟩
  ·rw[if_neg c2];exact⟨by decide,fin⟩
 ·rw[if_neg c1];exact⟨by decide,fin⟩
theorem jgS (T:Tx K mg t1 t2) (F:At K mg "plane_through" jbB ["one","other","third"] []) (dM:jaw P w K mg base CX0 4 "rough_plane" ["one","other","third"] [] jhJ) (dW:jaw P w K mg base CX0 3 "made_plane" ["a","b","c","d"] [] jhM) (Df:jaw P w K mg base CX0 1 "is_plain" ["plane"] [] jhI) (dG:jaw P w K mg base CX0 1 "turned_about" ["plane"] [] jgg):jaw P w K mg base CX0 5 "plane_through" ["one","other","third"] [] jfp:=by
  refine F.ok jca (fun vs H Q E h=>?_) (fun f cdv A outer s H vs Q E hr h=>?_)
  . obtain⟨r,e,t,p,o,u,rfl,_⟩:=h
    rfl
  obtain⟨r,e,t,p,o,u,rfl,h1,h2,h3,na,q⟩:=h;have S:=jca;refine⟨_,(jad (jal (i:=3) S.nd rfl (Or.inl rfl) (jai dM hr.m rfl jaA (jaa (pv 0) (jaa (pv 1) (jaa (pv 2) jac jaf) jaf) jaf)))
    (jad (jal (i:=4) S.nd rfl (Or.inl rfl) (jai dW hr.m rfl jaA (jaa (jak jaC (pv 3) jab) (jaa (jak jaC (pv 3) jab) (jaa (jak jaC (pv 3) jab) (jaa (jak jaC (pv 3) jab) jac jaI) jaI) jaI) jaI)))
    (jad (jaR (jcF (jai Df hr.m rfl jaA (jaa (pv 4) jac jaf)))
    (jae (jap (pv 4)))
    jaq)
    (jae (jap (jai dG hr.m rfl jaA (jaa (pv 4) jac jaf))))))),?_⟩
  obtain⟨m0,m1,m2,m3⟩:=jgj h1.2 h2.2 h3.2;walk_at "rf";refine⟨r,e,t,p,o,u,rfl,h1,h2,h3,fun g H1 s1 e1=>?_⟩;have kg:SqT K H1 g [.int (jaG 0 p o u),.int (-jaG 1 p o u),.int (jaG 2 p o u),.int (jaG 3 p o u)]:=SqT.of e1;walk_at "gf";refine⟨_,_,_,_,rfl,m0,m1.neg,m2,m3,fun z=>na ⟨z.1,by omega,z.2.2⟩,fun g2 H2 s2 e2=>?_⟩;have el:∃a b c d,low (rgh p o u)=[a,b,c,d]:=⟨_,_,_,_,rfl⟩;have e2':H2 g2=some (.tup ((low (rgh p o u)).map V.int)):=e2;obtain⟨a,b,c,d,el⟩:=el;unfold pln at q;rw[el] at q e2';walk_at "rf";refine⟨g2,a,b,c,d,rfl,e2',fun H3 s3=>?_⟩;have s13:=s1.trans (s2.trans s3);dsimp only at q;cases eb:plb a b c with
  | true =>
    rw[eb,if_pos rfl] at q;walk_at "rf";exact q g2 H3 s13 (s3 _ _ e2')
  | false =>
    rw[eb,if_neg (by decide)] at q;walk_at "rf";refine⟨g2,[a,b,c,d],rfl,s3 _ _ e2',by simp,fun g3 H4 s4 e4=>?_⟩;exact q g3 H4 (s13.trans s4) e4
theorem ok_ht (T:Tx K mg t1 t2) (F:At K mg "height_over" jb0 ["plane","spot"] []):jaw P w K mg base CX0 1 "height_over" ["plane","spot"] [] spHt:=by
 refine F.ok jcI (fun vs H Q E h=>?_) (fun f cdv A outer s H vs Q E hr h=>?_)
 ·obtain⟨r,e,a,b,c,d,p,rfl,_⟩:=h;rfl
 obtain⟨r,e,a,b,c,d,p,rfl,h1,sa,sb,sc,sd,h2,q⟩:=h;have S:=jcI;refine⟨_,(jae (jap (jah ja2 (jah ja9 (jah ja9 (jah jav (jak jaC (pv 0) jab) (jak jaC (pv 1) jab)) (jah jav (jak jaC (pv 0) jab) (jak jaC (pv 1) jab))) (jah jav (jak jaC (pv 0) jab) (jak jaC (pv 1) jab))) (jah jav (jak jaC (pv 0) jab) (jak jaC (pv 1) jab))))),?_⟩;have k1:SqT K H r [.int a,.int b,.int c,.int d]:=SqT.of h1;have f1:=sa.bd.fit;have f2:=sb.bd.fit;have f3:=sc.bd.fit;have f4:=sd.bd.fit;have k_h2:=h2.sq (K:=K);have g0:=h2.2.fx;have g1:=h2.2.fy;have g2:=h2.2.fz;have g3:=h2.2.fw;walk_at "rf";walk_at "gf";exact q
theorem jkh (T:Tx K mg t1 t2) (F:At K mg "side_of" jd3 ["plane","spot"] []) (dn:jaw P w K mg base CX0 1 "sign_of" ["number"] [] jhK) (dH:jaw P w K mg base CX0 1 "height_over" ["plane","spot"] [] spHt):jaw P w K mg base CX0 2 "side_of" ["plane","spot"] [] jjk:=by
 refine F.ok jeu (fun vs H Q E h=>?_) (fun f cdv A outer s H vs Q E hr h=>?_)
 ·obtain⟨r,e,a,b,c,d,p,rfl,_⟩:=h;rfl
 obtain⟨r,e,a,b,c,d,p,rfl,h1,sa,sb,sc,sd,h2,q⟩:=h;have S:=jeu;refine⟨_,(jae (jap (jai dn hr.m rfl jaA (jaa (jai dH hr.m rfl jaA (jaa (pv 0) (jaa (pv 1) jac jaf) jaf)) jac jaH)))),?_⟩;walk_at "rf";exact⟨r,e,a,b,c,d,p,rfl,h1,sa,sb,sc,sd,h2,_,rfl,q⟩
theorem jiQ (T:Tx K mg t1 t2) (F:At K mg "stands_first" jbM ["one","other"] []):jaw P w K mg base CX0 1 "stands_first" ["one","other"] [] jhL:=by
  refine F.ok jcu (fun vs H Q E h=>?_) (fun f cdv A outer s H vs Q E hr h=>?_)
  . obtain⟨r,e,p,o,rfl,_⟩:=h
    rfl
  obtain⟨r,e,p,o,rfl,h1,h2,q⟩:=h;have S:=jcu;refine⟨_,(jad (jbo PassesOwn.never rfl (jaE rfl T.m_range (jaa jab jac jaj)) (jax (i:=2) S.nd rfl (Or.inl rfl))
    (jad (jal (i:=3) S.nd rfl (Or.inl rfl) (jah jav (jak jaC (pv 0) (pv 2)) (jak jaC (pv 1) jab)))
    (jad (jal (i:=4) S.nd rfl (Or.inl rfl) (jah jav (jak jaC (pv 1) (pv 2)) (jak jaC (pv 0) jab)))
    (jae (jaR (jam jeA (pv 3) (pv 4) (jar _))
    (jae (jap (jg3 jjL (pv 3) (pv 4) (jar _))))
    jaq)))))
    (jae (jap jbq))),?_⟩
  have k_h1:=h1.sq (K:=K);have k_h2:=h2.sq (K:=K);have f0:=h1.2.fx;have f1:=h1.2.fy;have f2:=h1.2.fz;have f3:=h1.2.fw;have g0:=h2.2.fx;have g1:=h2.2.fy;have g2:=h2.2.fz;have g3:=h2.2.fw;unfold sfp at q;walk_at "rd";refine⟨3,rfl,by decide,by decide,ja8 (lo:=0) (n:=3) (fun i σ H2=>H2=H/\∃(o0 o1 o2:Option V),σ=[some (.ref r),some (.ref e),o0,o1,o2]/\(1<=i->p.x*o.w=o.x*p.w)/\(2<=i->p.y*o.w=o.y*p.w)/\(3<=i->p.z*o.w=o.z*p.w)) ⟨rfl,none,none,none,rfl,by simp,by simp,by simp⟩ ?_ ?_⟩
  . rintro i σ H2 hi ⟨rfl,o0,o1,o2,rfl,e0,e1,e2⟩
    match i,hi with
    | 0, _ =>
      walk_at "rd";walk_at "go";refine jbR (fun c=>⟨fun _=>c,fun h=>absurd h (by decide),fun h=>absurd h (by decide)⟩) fun c=>?_;rw[sf,if_pos c] at q;exact q
    | 1, _ =>
      have d0:=e0 (by decide);walk_at "rd";walk_at "go";refine jbR (fun c=>⟨fun _=>d0,fun _=>c,fun h=>absurd h (by decide)⟩) fun c=>?_;rw[sf,if_neg (fun n=>n d0),if_pos c] at q;exact q
    | 2, _ =>
      have d0:=e0 (by decide);have d1:=e1 (by decide);walk_at "rd";walk_at "go";refine jbR (fun c=>⟨fun _=>d0,fun _=>d1,fun _=>c⟩) fun c=>?_;rw[sf,if_neg (fun n=>n d0),if_neg (fun n=>n d1),if_pos c] at q;exact q
  . rintro σ H2 ⟨rfl,o0,o1,o2,rfl,e0,e1,e2⟩
    rw[sf,if_neg (fun n=>n (e0 (by decide))),if_neg (fun n=>n (e1 (by decide))),if_neg (fun n=>n (e2 (by decide)))] at q;walk_at "rd";exact q
theorem jki (T:Tx K mg t1 t2) (F:At K mg "flat_axis" jcT ["plane"] []):jaw P w K mg base CX0 1 "flat_axis" ["plane"] [] jjl:=by
  refine F.ok jdy (fun vs H Q E h=>?_) (fun f cdv A outer s H vs Q E hr h=>?_)
  . obtain⟨r,a,b,c,d,rfl,_⟩:=h
    rfl
  obtain⟨r,a,b,c,d,rfl,h1,nz,q⟩:=h;have S:=jdy;refine⟨_,(jad (jbo PassesOwn.never rfl (jaE rfl T.m_range (jaa jab jac jaj)) (jax (i:=1) S.nd rfl (Or.inl rfl))
    (jae (jaR (jam jeA (jak jaC (pv 0) (pv 1)) jab (jar _))
    (jae (jap (pv 1)))
    jaq)))
    (jae (jap jel))),?_⟩
  have k1:SqT K H r [.int a,.int b,.int c,.int d]:=SqT.of h1;walk_at "rf";walk_at "gf";refine ja8 (lo:=0) (n:=3) (fun i σ H2=>H2=H/\∃o1:Option V,σ=[some (.ref r),o1]/\(1<=i->a=0)/\(2<=i->b=0)/\(3<=i->c=0)) ⟨rfl,none,rfl,by simp,by simp,by simp⟩ ?_ ?_
  . rintro i σ H2 hi ⟨rfl,o1,rfl,e0,e1,e2⟩
    match i,hi with
    | 0, _ =>
      walk_at "rf";walk_at "gf";refine jbR (fun cc=>⟨fun _=>cc,fun h=>absurd h (by decide),fun h=>absurd h (by decide)⟩) fun cc=>?_;exact q _ (.inl ⟨rfl,cc⟩)
    | 1, _ =>
      have d0:=e0 (by decide);walk_at "rf";walk_at "gf";refine jbR (fun cc=>⟨fun _=>d0,fun _=>cc,fun h=>absurd h (by decide)⟩) fun cc=>?_;exact q _ (.inr (.inl ⟨rfl,d0,cc⟩))
    | 2, _ =>
      have d0:=e0 (by decide);have d1:=e1 (by decide);walk_at "rf";walk_at "gf";refine jbR (fun cc=>⟨fun _=>d0,fun _=>d1,fun _=>cc⟩) fun cc=>?_;exact q _ (.inr (.inr ⟨rfl,d0,d1,cc⟩))
  . rintro σ H2 ⟨rfl,o1,rfl,e0,e1,e2⟩
    exact absurd ⟨e0 (by decide),e1 (by decide),e2 (by decide)⟩ nz
theorem jkj (T:Tx K mg t1 t2) (F:At K mg "side_of_edge" jbO ["edge","spot","axis"] []) (dn:jaw P w K mg base CX0 1 "sign_of" ["number"] [] jhK) (de:jaw P w K mg base CX0 3 "minor_of" ["one","other","third","place"] [] jeN):jaw P w K mg base CX0 4 "side_of_edge" ["edge","spot","axis"] [] jjm:=by
 refine F.ok jcw (fun vs H Q E h=>?_) (fun f cdv A outer s H vs Q E hr h=>?_)
 ·obtain⟨g,r,e,t,k,p,o,u,rfl,_⟩:=h;rfl
 obtain⟨g,r,e,t,k,p,o,u,rfl,hg,h1,h2,h3,k0,k3,q⟩:=h;have S:=jcw;refine⟨_,(jae (jap (jai dn hr.m rfl jaA (jaa (jai de hr.m rfl jaA (jaa (jak jaC (pv 0) jab) (jaa (jak jaC (pv 0) jab) (jaa (pv 1) (jaa (pv 2) jac jaf) jaf) jaI) jaI)) jac jaH)))),?_⟩;have kg:SqT K H g [.ref r,.ref e]:=SqT.of hg;walk_at "rf";walk_at "gf";refine⟨r,e,t,k,p,o,u,rfl,h1,h2,h3,k0,k3,fun H1 s1=>?_⟩;exact⟨_,rfl,q H1 s1⟩
def fM1 (H:Hp) (l:Addr) (ps:List Pt):L2.St->Hp->Prop:=fun σ H'=>∃o2:Option V,σ=[some (.ref l),some (.int (fF ps:Nat)),o2,none]/\H'=H
def fM2 (H:Hp) (l:Addr) (ps:List Pt) (rs:List Addr):L2.St->Hp->Prop:=fun σ H'=>∃(g:Addr) (o1 o2:Option V),σ=[some (.ref l),o1,o2,some (.ref g)]/\H' g=some (.lst ((rot (fF ps) rs).map V.ref))/\Same H H'
def fM3 (H:Hp) (ps:List Pt) (rs:List Addr):L2.St->Hp->Prop:=fun σ H'=>∃(g:Addr) (o0 o1 o2:Option V),σ=[o0,o1,o2,some (.ref g)]/\H' g=some (.lst ((frm ps rs).map V.ref))/\Same H H'
theorem jhQ {α:Type} {l:List α} (h:f<=l.length):(rot f l).length=l.length:=by
 unfold rot;rw[xab,xaq,xag];omega
theorem jhR (T:Tx K mg t1 t2) (F:At K mg "formed" jeL ["corners"] []) (dw:jaw P w K mg base CX0 1 "stands_first" ["one","other"] [] jhL):jaw P w K mg base CX0 2 "formed" ["corners"] [] jgh:=by
  refine F.ok jfq (fun vs H Q E h=>?_) (fun f cdv A outer s H vs Q E hr h=>?_)
  . obtain⟨l,rs,ps,rfl,_⟩:=h
    rfl
  obtain⟨l,rs,ps,rfl,hc,n3,n8,q⟩:=h;have S:=jfq;refine⟨_,(jad (jal (i:=1) S.nd rfl (Or.inl rfl) jab)
    (jaV (fM1 H l ps) (jbo PassesOwn.never rfl (jeY rfl T.m_range (jaa jab (jaa (jau jaz rfl T.m_len PySem.boot_len (jaa (pv 0) jac jaf)) jac jaH) jaj)) (jax (i:=2) S.nd rfl (Or.inl rfl))
    (jae (jaR (jcF (jai dw hr.m rfl jaA (jaa (jak jan (pv 0) (pv 2)) (jaa (jak jan (pv 0) (pv 1)) jac jaI) jaI)))
    (jae (jal (i:=1) S.nd rfl (Or.inl rfl) (pv 2)))
    jaq)))
    (jaV (fM2 H l ps rs) (jal (i:=3) S.nd rfl (Or.inl rfl) (jah jb9 (jbc jbI rfl T.m_list boot_list (jaa (jaO ja1 (pv 0) (jaK (pv 1)) jaJ) jac jaI)) (jbc jbI rfl T.m_list boot_list (jaa (jaO ja1 (pv 0) jaJ (jaK (pv 1))) jac jaI))))
    (jaV (fM3 H ps rs) (jaR (jcF (jai dw hr.m rfl jaA (jaa (jak jan (pv 3) (jdF jb7 jab)) (jaa (jak jan (pv 3) jab) jac jaI) jaI)))
    (jae (jal (i:=3) S.nd rfl (Or.inl rfl) (jah jb9 (jaO ja1 (pv 3) jaJ (jaK jab)) (jgJ rfl rfl T.m_list rfl T.m_reversed (jaO ja1 (pv 3) (jaK jab) jaJ)))))
    jaq)
    (jae (jap (jbc jdW rfl T.m_tuple boot_tuple (jaa (pv 3) jac jaf)))))))),?_⟩
  have ln:=hc.2.len;have lm:(rs.map V.ref).length=ps.length:=by rw[xaa,ln]
  have kl:SqL K H l (rs.map V.ref):=SqL.of hc.1;walk_at "rf";refine⟨⟨_,.inl kl,by decide,by decide,by omega,by omega,?_⟩,?_⟩
  . refine ja8 (lo:=1) (n:=_) (fun i σ H2=>H2=H /\ ∃o2:Option V,σ=[some (.ref l),some (.int (jhN ps i:Nat)),o2,none]) ⟨rfl,none,rfl⟩ ?_ ?_
    . rintro i σ H2 hi ⟨rfl,o2,rfl⟩
      have hi2:i+1<ps.length:=by omega
      have al:=jfN ps i;obtain⟨g1,g2⟩:=hc.2.get hi2;obtain⟨g3,g4⟩:=hc.2.get (i:=jhN ps i) (by omega);have e1:atI (rs.map V.ref) (1+(i:Int))=some (.ref (ad rs (i+1))):=by
        have z:(1+(i:Int))=((i+1:Nat):Int):=by omega
        rw[z];exact jaS g1
      walk_at "rf";refine ixL kl e1 ?_;refine ixL kl (jaS g3) ?_;refine⟨_,_,_,_,rfl,g2,g4,?_⟩;have ea:jhN ps (i+1)=if sfp (pt ps (i+1)) (pt ps (jhN ps i))=true then i+1 else jhN ps i:=rfl;walk_at "rf";cases es:sfp (pt ps (i+1)) (pt ps (jhN ps i)) with
      | true =>
        rw[es,if_pos rfl] at ea;rw[ea,if_pos rfl];exact⟨by omega,_,rfl⟩
      | false =>
        rw[es,if_neg (by decide)] at ea;rw[ea,if_neg (by decide)];exact⟨rfl,_,rfl⟩
    . rintro σ H2 ⟨rfl,o2,rfl⟩
      have e:(((List.map V.ref rs).length:Int)-1).toNat=ps.length-1:=by omega
      rw[e];exact⟨_,rfl,rfl⟩
  rintro σ1 H1 ⟨o2,rfl,rfl⟩;have fl:fF ps<ps.length:=by have:=jfN ps (ps.length-1);unfold fF;omega
  walk_at "rf";refine⟨⟨l,_,rfl,kl,fun a1 h1=>?_⟩,?_⟩
  . rw[jbv]
    refine ja4 h1 fun J1 s1 e1=>?_;refine⟨a1,rfl,_,.inl (SqL.of e1),fun a2 h2=>?_⟩;refine ja4 h2 fun J2 s2 e2=>?_;refine⟨l,_,rfl,(s1.trans s2).seq kl,fun a3 h3=>?_⟩;rw[jbm];refine ja4 h3 fun J3 s3 e3=>?_;refine⟨a3,rfl,_,.inl (SqL.of e3),fun a4 h4=>?_⟩;refine ja4 h4 fun J4 s4 e4=>?_;refine⟨a2,a4,_,_,rfl,rfl,s4 _ _ (s3 _ _ e2),e4,?_,fun a5 h5=>⟨a5,_,_,rfl,?_,s1.trans (s2.trans (s3.trans (s4.trans (Same.new h5 _))))⟩⟩
    . rw[xaq,xag]
      exact xaw (show _<=1000 by omega) (by decide)
    . unfold rot
      rw[xaj,xaT,xaP];exact upd_same
  rintro σ2 H2 ⟨g,o1,o2,rfl,hg,s2⟩;have hr2:=(hc.2.keep s2.t).rot (fF ps);have rl:(rot (fF ps) ps).length=ps.length:=jhQ (by omega);have rl2:((rot (fF ps) rs).map V.ref).length=ps.length:=by rw[xaa,jhQ (by omega),ln]
  have kg:SqL K H2 g ((rot (fF ps) rs).map V.ref):=SqL.of hg;obtain⟨b1,b2⟩:=hr2.get (i:=ps.length-1) (by omega);obtain⟨b3,b4⟩:=hr2.get (i:=1) (by omega);have ef:∀{α:Type} (x:List α),frm ps x=turn (fB ps) (rot (fF ps) x):=fun _=>rfl;have eb:fB ps=sfp (pt (rot (fF ps) ps) (ps.length-1)) (pt (rot (fF ps) ps) 1):=rfl;walk_at "rf";refine⟨ixL kg (jdK (n:=ps.length-1) (by omega) b1) (ixL kg (jaS (j:=1) b3) ?_),?_⟩
  . refine⟨_,_,_,_,rfl,b2,b4,?_⟩
    rw[<- eb];have ef:=ef rs;cases es:fB ps with
    | false =>
      rw[es] at ef;walk_at "rf";exact⟨g,_,_,_,rfl,by rw[ef];exact hg,s2⟩
    | true =>
      rw[es] at ef;have ef2:frm ps rs=(rot (fF ps) rs).take 1++((rot (fF ps) rs).drop 1).reverse:=ef;walk_at "rf";refine⟨g,_,rfl,kg,fun a1 h1=>?_⟩;have c1:jeD ((rot (fF ps) rs).map V.ref) none (some 1)=((rot (fF ps) rs).map V.ref).take 1:=jbm (f:=1);rw[c1];refine ja4 h1 fun J1 s3 e1=>?_;refine⟨g,_,rfl,s3.seq kg,fun a2 h2=>?_⟩;have c2:jeD ((rot (fF ps) rs).map V.ref) (some 1) none=((rot (fF ps) rs).map V.ref).drop 1:=jbv (f:=1);rw[c2];refine ja4 h2 fun J2 s4 e2=>?_;refine⟨a2,rfl,_,SqL.of e2,fun a3 h3=>?_⟩;refine ja4 h3 fun J3 s5 e3=>?_;refine⟨a1,a3,_,_,rfl,rfl,s5 _ _ (s4 _ _ e1),e3,?_,fun a4 h4=>⟨a4,_,_,_,rfl,?_,s2.trans (s3.trans (s4.trans (s5.trans (Same.new h4 _))))⟩⟩
      . rw[xaV,xaq,xag]
        exact xaw (show _<=1000 by omega) (by decide)
      . rw[ef2,xaj,xaP,List.map_reverse,xaT]
        exact upd_same
  rintro σ3 H3 ⟨g,o0,o1,o2,rfl,hg,s3⟩;walk_at "rf";exact⟨_,SqL.of hg,fun t ht=>q t _ (s3.trans (Same.new ht _)) upd_same⟩
theorem jiR (h:Sps H rs ps) (hi:i<ps.length):atI (rs.map V.ref) ((i:Int)-1)=some (.ref (ad rs ((i+(ps.length-1)) % ps.length))):=by
  have lm:(rs.map V.ref).length=ps.length:=by rw[xaa,h.len]
  cases i with
  | zero =>
    have e:(0+(ps.length-1)) % ps.length=ps.length-1:=by rw[Nat.zero_add];exact Nat.mod_eq_of_lt (by omega)
    rw[e];have z:((0:Nat):Int)-1=-1:=rfl;rw[z];exact jdK (n:=ps.length-1) (by omega) (h.get (i:=ps.length-1) (by omega)).1
  | succ i =>
    have e:(i+1+(ps.length-1)) % ps.length=i:=by
      have z:i+1+(ps.length-1)=i+ps.length:=by omega
      rw[z,Nat.add_mod_right];exact Nat.mod_eq_of_lt (by omega)
    rw[e];have z:((i+1:Nat):Int)-1=(i:Int):=by omega
    rw[z];exact jaS (h.get (i:=i) (by omega)).1
theorem jkk {b:Int} (h:¬(a=0/\b=0/\c=0)) (hp:plb a b c=false):plb (-a) (-b) (-c)=true:=by
 by_cases ha:a=0
 ·by_cases hb:b=0
  ·have hc:c≠0:=fun z=>h ⟨ha,hb,z⟩;simp [plb,ha,hb,hc] at hp |-
   omega
  ·simp [plb,ha,hb] at hp |-
   omega
 ·simp [plb,ha] at hp |-
  omega
theorem jlo (ns:List Int):gl (ns.map fun n=>-n)=gl ns:=by
 have d1:gl (ns.map fun n=>-n) ∣ gl ns:=jfm fun n hn=>Int.dvd_neg.mp (jba (xaB.mpr ⟨n,hn,rfl⟩));have d2:gl ns ∣ gl (ns.map fun n=>-n):=jfm fun n hn=>by
  obtain⟨m,hm,rfl⟩:=xaB.mp hn;exact Int.dvd_neg.mpr (jba hm)
 exact Int.dvd_antisymm (jbA _) (jbA _) d1 d2
theorem jhS {b:Int} (h:¬(a=0/\b=0/\c=0)) (sa:Small a) (sb:Small b) (sc:Small c) (sd:Small d):∃x y z w:Int,pln [a,b,c,d]=[x,y,z,w]/\Small x/\Small y/\Small z/\Small w/\gl [x,y,z,w]=1/\plb x y z=true/\∀p:Pt,hgt a b c d p=0->hgt x y z w p=0:=by
  have gp:=gl4 (d:=d) h;have g1:gl (low [a,b,c,d])=1:=jlj (ns:=[a,b,c,d]) (by omega);have nz:¬(a / gl [a,b,c,d]=0/\b / gl [a,b,c,d]=0/\c / gl [a,b,c,d]=0):=fun z=>by
    have g:∀{x:Int},x∈[a,b,c,d]->x / gl [a,b,c,d]=0->x=0:=fun hx z=>Classical.byContradiction fun q=>jfL (jba hx) q z;exact h ⟨g (by simp) z.1,g (by simp) z.2.1,g (by simp) z.2.2⟩
  have el:low [a,b,c,d]=[a / gl [a,b,c,d],b / gl [a,b,c,d],c / gl [a,b,c,d],d / gl [a,b,c,d]]:=rfl;have ea:=xaz (jba (ns:=[a,b,c,d]) (n:=a) (by simp));have eb:=xaz (jba (ns:=[a,b,c,d]) (n:=b) (by simp));have ec:=xaz (jba (ns:=[a,b,c,d]) (n:=c) (by simp));have ed:=xaz (jba (ns:=[a,b,c,d]) (n:=d) (by simp));have s1:=sa.div (g:=gl [a,b,c,d]);have s2:=sb.div (g:=gl [a,b,c,d]);have s3:=sc.div (g:=gl [a,b,c,d]);have s4:=sd.div (g:=gl [a,b,c,d]);unfold pln;rw[el] at g1 |-
  generalize gl [a,b,c,d]=g at gp g1 nz ea eb ec ed s1 s2 s3 s4 |-
  generalize a / g=x at g1 nz ea s1 |-
  generalize b / g=y at g1 nz eb s2 |-
  generalize c / g=z at g1 nz ec s3 |-
  generalize d / g=w at g1 ed s4 |-
  have hz:∀p:Pt,hgt a b c d p=0->hgt x y z w p=0:=fun p hp=>by
    have e:hgt x y z w p*g=0:=by
      rw[<- hp,<- ea,<- eb,<- ec,<- ed];unfold hgt;grind
    rcases Int.mul_eq_zero.mp e with q | q
    . exact q
    . omega
  show ∃x' y' z' w':Int,(if plb x y z=true then [x,y,z,w] else [-x,-y,-z,-w])=[x',y',z',w']/\_;cases eb:plb x y z with
  | true=>exact⟨x,y,z,w,if_pos rfl,s1,s2,s3,s4,g1,eb,hz⟩
  | false =>
    refine⟨-x,-y,-z,-w,if_neg (by decide),s1.neg,s2.neg,s3.neg,s4.neg,?_,jkk nz eb,fun p hp=>?_⟩
    . rw[<- g1]
      exact jlo [x,y,z,w]
    . have e:=hz p hp
      have e2:hgt (-x) (-y) (-z) (-w) p=-hgt x y z w p:=by
        unfold hgt;grind
      rw[e2,e];rfl
theorem jlp {b x y w:Int} (h:pln [a,b,c,d]=[x,y,z,w]):(x≠0->a≠0)/\(y≠0->b≠0)/\(z≠0->c≠0):=by
 have el:low [a,b,c,d]=[a / gl [a,b,c,d],b / gl [a,b,c,d],c / gl [a,b,c,d],d / gl [a,b,c,d]]:=rfl;unfold pln at h;rw[el] at h;generalize gl [a,b,c,d]=g at h;have h':(if plb (a / g) (b / g) (c / g)=true then [a / g,b / g,c / g,d / g] else [-(a / g),-(b / g),-(c / g),-(d / g)])=[x,y,z,w]:=h;have z0:∀{i:Int},i=0->i / g=0:=fun e=>by rw[e];exact Int.zero_ediv g
 split at h'
 ·simp only[List.cons.injEq,and_true] at h';obtain⟨e1,e2,e3,_⟩:=h';exact⟨fun q e=>q (by rw[<- e1];exact z0 e),fun q e=>q (by rw[<- e2];exact z0 e),fun q e=>q (by rw[<- e3];exact z0 e)⟩
 ·simp only[List.cons.injEq,and_true] at h';obtain⟨e1,e2,e3,_⟩:=h';exact⟨fun q e=>q (by rw[<- e1,z0 e];rfl),fun q e=>q (by rw[<- e2,z0 e];rfl),fun q e=>q (by rw[<- e3,z0 e];rfl)⟩
theorem jlq {x y:Int} (h:plb x y z=true):¬(x=0/\y=0/\z=0):=fun e=>by
 simp [plb,e.1,e.2.1,e.2.2] at h
theorem sgn0:sgn 0=0:=rfl
structure Tri where
 x:Int
 y:Int
 z:Int
def Tri.bd (n:Nat) (v:Tri):Prop:=Bd n v.x/\Bd n v.y/\Bd n v.z
structure Sht where
 s:Tri
 w:Int
 c:Tri
 d:Tri
def Box (H:Hp) (L:Addr):Prop:=∃m:Int,H L=some (.lst [.int m])
theorem SameB.t {L:Addr} (s:SameB L H H') (h:Box H L):SameT H H':=fun b xs hb=>by
 by_cases e:b=L
 ·obtain⟨m,hm⟩:=h;rw[e,hm] at hb;cases hb
 ·exact s b _ e hb
theorem Bd.div {i:Int} (h:Bd n i):Bd n (i / g):=xaQ (xa0 i g) h
def w3 (Z:Sht):Int:=Z.w*Z.w*Z.w
theorem jbl {j:Nat} (h:3<=n):∃k,k<n/\j≠k/\i≠k:=by
 by_cases h0:i=0\/j=0
 ·by_cases h1:i=1\/j=1
  ·exact⟨2,by omega,by omega,by omega⟩
  ·exact⟨1,by omega,by omega,by omega⟩
 ·exact⟨0,by omega,by omega,by omega⟩
def jjo:Sp:=fun vs H Q _=>∃(l:Addr) (k:Int) (rs:List Addr) (ps:List Pt),vs=[.ref l,.int k]/\Cor H l rs ps/\3<=ps.length/\ps.length<=8/\0<=k/\k<=2/\((Rnd k ps/\∀H':Hp,Same H H'->Q (.bl true) H')\/(¬Rnd k ps/\∀H':Hp,Same H H'->Q (.bl false) H'))
theorem jiS {b x y w:Int} (h:pln [a,b,c,d]=[x,y,z,w]) (hp:hgt x y z w p=0):hgt a b c d p=0:=by
 have ea:=xaz (jba (ns:=[a,b,c,d]) (n:=a) (by simp));have eb:=xaz (jba (ns:=[a,b,c,d]) (n:=b) (by simp));have ec:=xaz (jba (ns:=[a,b,c,d]) (n:=c) (by simp));have ed:=xaz (jba (ns:=[a,b,c,d]) (n:=d) (by simp));have el:low [a,b,c,d]=[a / gl [a,b,c,d],b / gl [a,b,c,d],c / gl [a,b,c,d],d / gl [a,b,c,d]]:=rfl;unfold pln at h;rw[el] at h;generalize gl [a,b,c,d]=g at ea eb ec ed h;generalize a / g=x' at ea h;generalize b / g=y' at eb h;generalize c / g=z' at ec h;generalize d / g=w' at ed h;have h:(if plb x' y' z'=true then [x',y',z',w'] else [-x',-y',-z',-w'])=[x,y,z,w]:=h;have k:hgt a b c d p=hgt x' y' z' w' p*g:=by
  rw[<- ea,<- eb,<- ec,<- ed];unfold hgt;grind
 rw[k];split at h
 ·cases h;rw[hp,xbb]
 ·cases h;have e2:hgt (-x') (-y') (-z') (-w') p=-hgt x' y' z' w' p:=by
   unfold hgt;grind
  rw[e2] at hp;have:hgt x' y' z' w' p=0:=by omega
  rw[this,xbb]
theorem jiT {n:Int} (h:sgn n=0):n=0:=by
 unfold sgn at h;split at h
 ·cases h
 ·split at h
  ·cases h
  ·omega
theorem jkl (T:Tx K mg t1 t2) (F:At K mg "is_convex" jcU ["corners","axis"] []) (dz:jaw P w K mg base CX0 4 "side_of_edge" ["edge","spot","axis"] [] jjm):jaw P w K mg base CX0 5 "is_convex" ["corners","axis"] [] jjo:=by
 refine F.ok jdz (fun vs H Q E h=>?_) (fun f cdv A outer s H vs Q E hr h=>?_)
 ·obtain⟨l,k,rs,ps,rfl,_⟩:=h;rfl
 obtain⟨l,k,rs,ps,rfl,hc,n3,n8,k0,k2,q⟩:=h;have S:=jdz;refine⟨_,(jad (jal (i:=2) S.nd rfl (Or.inl rfl) (jai dz hr.m rfl jaA (jaa (ja5 (jaa (jak jan (pv 0) jab) (jaa (jak jan (pv 0) jab) jac jaI) jaI)) (jaa (jak jan (pv 0) jab) (jaa (pv 1) jac jaf) jaI) jaY)))
  (jad (jal (i:=3) S.nd rfl (Or.inl rfl) (jau jaz rfl T.m_len PySem.boot_len (jaa (pv 0) jac jaf)))
  (jad (jbo PassesOwn.never rfl (jaE rfl T.m_range (jaa (pv 3) jac jaf)) (jax (i:=4) S.nd rfl (Or.inl rfl))
  (jad (jal (i:=5) S.nd rfl (Or.inl rfl) (ja5 (jaa (jak jan (pv 0) (jah ja2 (pv 4) jab)) (jaa (jak jan (pv 0) (pv 4)) jac jaI) jaI)))
  (jae (jbo PassesOwn.never rfl (jeY rfl T.m_range (jaa jab (jaa (jah ja2 (pv 3) jab) jac jaM) jaj)) (jax (i:=6) S.nd rfl (Or.inl rfl))
  (jae (jaR (jam jeA (jai dz hr.m rfl jaA (jaa (pv 5) (jaa (jak jan (pv 0) (jah jaB (jah ja9 (pv 4) (pv 6)) (pv 3))) (jaa (pv 1) jac jaf) jaI) jaf)) (pv 2) (jar _))
  (jae (jap jbq))
  jaq))))))
  (jae (jap jbq))))),?_⟩
 have ln:=hc.2.len;have lm:(rs.map V.ref).length=ps.length:=by rw[xaa,ln]
 have kl:SqL K H l (rs.map V.ref):=SqL.of hc.1;obtain⟨a1,a2⟩:=hc.2.get (i:=0) (by omega);obtain⟨a3,a4⟩:=hc.2.get (i:=1) (by omega);obtain⟨a5,a6⟩:=hc.2.get (i:=2) (by omega);walk_at "rf";refine ixL kl (jaS (j:=0) a1) (ixL kl (jaS (j:=1) a3) ⟨by decide,fun g hg=>?_⟩);refine ja4 hg fun H1 s1 e1=>?_;refine ixL (s1.seq kl) (jaS (j:=2) a5) ?_;refine⟨g,_,_,_,k,_,_,_,rfl,e1,a2.keep s1,a4.keep s1,a6.keep s1,k0,by omega,fun H2 s2=>?_⟩;have s12:=s1.trans s2;have kl2:=s12.seq kl;walk_at "rf";refine⟨_,.inl kl2,?_⟩;rw[lm];refine⟨by omega,by omega,?_⟩;refine ja8 (lo:=0) (n:=_) (fun i σ H3=>Same H H3/\(∀i' j',i'<i->1<=j'->j'<ps.length-1->sgn (jaG k (pt ps ((i'+(ps.length-1)) % ps.length)) (pt ps i') (pt ps ((i'+j') % ps.length)))=sgn (jaG k (pt ps 0) (pt ps 1) (pt ps 2)))/\∃o4 o5 o6:Option V,σ=[some (.ref l),some (.int k),some (.int (sgn (jaG k (pt ps 0) (pt ps 1) (pt ps 2)))),some (.int (ps.length:Nat)),o4,o5,o6]) ⟨s12,fun i' j' h=>absurd h (Nat.not_lt_zero _),none,none,none,rfl⟩ ?_ ?_
 ·rintro i σ H3 hi ⟨s3,al,o4,o5,o6,rfl⟩;have hi2:i<ps.length:=by simpa using hi
  have kl3:=s3.seq kl;have sp3:=hc.2.keep s3.t;obtain⟨b1,b2⟩:=sp3.get hi2;have hm:(i+(ps.length-1)) % ps.length<ps.length:=Nat.mod_lt _ (by omega);obtain⟨b3,b4⟩:=sp3.get hm;have ep:=jiR sp3 hi2;have z0:(0:Int)+(i:Int)=(i:Int):=Int.zero_add _;rw[z0];walk_at "rf";refine ixL kl3 ep (ixL kl3 (jaS b1) ⟨by decide,fun g3 hg3=>?_⟩);refine ja4 hg3 fun H4 s4 e4=>?_;refine⟨by decide,by decide,by omega,by omega,?_⟩;refine ja8 (lo:=1) (n:=_) (fun j σ H5=>Same H4 H5/\(∀j',j'<j->sgn (jaG k (pt ps ((i+(ps.length-1)) % ps.length)) (pt ps i) (pt ps ((i+(j'+1)) % ps.length)))=sgn (jaG k (pt ps 0) (pt ps 1) (pt ps 2)))/\∃o6:Option V,σ=[some (.ref l),some (.int k),some (.int (sgn (jaG k (pt ps 0) (pt ps 1) (pt ps 2)))),some (.int (ps.length:Nat)),some (.int (i:Int)),some (.ref g3),o6]) ⟨Same.refl _,fun j' h=>absurd h (Nat.not_lt_zero _),_,rfl⟩ ?_ ?_
  ·rintro j σ H5 hj ⟨s5,al5,o6,rfl⟩;have hj2:j+1<ps.length-1:=by omega
   have s35:=s4.trans s5;have s05:=s3.trans s35;have sp5:=hc.2.keep s05.t;have hm2:(i+(j+1)) % ps.length<ps.length:=Nat.mod_lt _ (by omega);obtain⟨c1,c2⟩:=sp5.get hm2;have ez:((i:Int)+(1+(j:Int))) % ((ps.length:Nat):Int)=(((i+(j+1)) % ps.length:Nat):Int):=by
    rw[Int.natCast_emod]
    congr 1
    omega
   walk_at "rf";rw[ez];refine⟨by omega,ixL (s05.seq kl) (jaS c1) ?_⟩;refine⟨g3,_,_,_,k,_,_,_,rfl,s5 _ _ e4,b4.keep s35,b2.keep s35,c2,k0,by omega,fun H6 s6=>?_⟩;try walk_at "rf"
   refine jbR (fun ce=>?_) fun ce=>?_
   ·refine⟨s5.trans s6,fun j' hj'=>?_,_,rfl⟩;by_cases cj:j'<j
    ·exact al5 j' cj
    ·have ej:j'=j:=by omega
     rw[ej];exact ce
   ·rcases q with ⟨rn,q⟩ | ⟨nr,q⟩
    ·exact absurd (rn i (j+1) hi2 (by omega) hj2) ce
    ·exact q _ (s05.trans s6)
  ·rintro σ H5 ⟨s5,al5,o6,rfl⟩;refine⟨s3.trans (s4.trans s5),fun i' j' hi' j1 j2=>?_,_,_,_,rfl⟩;by_cases ci:i'<i
   ·exact al i' j' ci j1 j2
   ·have ei:i'=i:=by omega
    subst ei;have z:=al5 (j'-1) (by omega);rw[show j'-1+1=j' by omega] at z;exact z
 ·rintro σ H3 ⟨s3,al,o4,o5,o6,rfl⟩;rcases q with ⟨_,q⟩ | ⟨nr,q⟩
  ·exact q _ s3
  ·exact absurd (fun i j hi j1 j2=>al i j (by simpa using hi) j1 j2) nr
def jgk (K:PySem.W.Frag):Sp:=fun vs H Q _=>∃(a:Addr) (ns:List Int) (k:Int),vs=[.ref a,.int k]/\SqL K H a (ns.map V.int)/\ns.length<=63/\0<=k/\k<=1000 /\
 ∀(n:Int) (H':Hp),Same H H'->0<=n->n<10^31->Q (.int n) H'
def nM1 (H:Hp) (a:Addr) (k:Int):L2.St->Hp->Prop:=fun σ H'=>∃cell turn:Int,σ=[some (.ref a),some (.int k),some (.int cell),some (.int turn),none,none,none,none]/\Same H H'/\0<=turn/\turn<=1000
def nM2 (H:Hp) (a:Addr) (k:Int):L2.St->Hp->Prop:=fun σ H'=>∃(cell turn:Int) (o4 o5:Option V),σ=[some (.ref a),some (.int k),some (.int cell),some (.int turn),o4,o5,none,none]/\Same H H'
def nM3 (H:Hp) (a:Addr) (k:Int):L2.St->Hp->Prop:=fun σ H'=>∃(o2 o3 o4 o5:Option V) (n:Int),σ=[some (.ref a),some (.int k),o2,o3,o4,o5,some (.int 618970019642690137449562111),some (.int n)]/\0<=n/\n<618970019642690137449562111/\Same H H'
theorem jiU {i:Int} (h0:0<=i) (h:i<(ns.length:Nat)):∃c:Int,atI (ns.map V.int) i=some (.int c):=by
 have hk:i.toNat<ns.length:=by omega
 have ek:i=((i.toNat:Nat):Int):=by omega
 have q:atI (ns.map V.int) ((i.toNat:Nat):Int)=some (.int ns[i.toNat]):=jaS (by rw[xak,xae hk]<;>rfl);rw[<- ek] at q;exact⟨_,q⟩
theorem jhT (T:Tx K mg t1 t2) (F:At K mg "_law_number" jb2 ["script","k"] []):jaw P w K mg base CX0 1 "_law_number" ["script","k"] [] (jgk K):=by
  refine F.ok jcK (fun vs H Q E h=>?_) (fun f cdv A outer s H vs Q E hr h=>?_)
  . obtain⟨a,ns,k,rfl,_⟩:=h
    rfl
  obtain⟨a,ns,k,rfl,hS,h63,h0,h1,q⟩:=h;have S:=jcK;refine⟨_,(jad (jal (i:=2) S.nd rfl (Or.inl rfl) jab)
    (jad (jal (i:=3) S.nd rfl (Or.inl rfl) (pv 1))
    (jaV (nM1 H a k) (jaR (jam (jch (jfG hr)) (pv 0) (jaN jac) (jar _))
    (jad (jal (i:=2) S.nd rfl (Or.inl rfl) (jak jan (pv 0) (jah jaB (pv 1) (jau jaz rfl T.m_len PySem.boot_len (jaa (pv 0) jac jaf)))))
    (jae (jal (i:=3) S.nd rfl (Or.inl rfl) (jah jas (pv 1) (jau jaz rfl T.m_len PySem.boot_len (jaa (pv 0) jac jaf))))))
    jaq)
    (jaV (nM2 H a k) (jaR (jam jkV (jau jbH rfl T.m_abs boot_abs (jaa (pv 2) jac jaf)) (jah jf0 jab jab) (jar _))
    (jad (jal (i:=4) S.nd rfl (Or.inl rfl) (jau jbH rfl T.m_abs boot_abs (jaa (pv 2) jac jaf)))
    (jad (jbo PassesOwn.never rfl (jaE rfl T.m_range (jaa (pv 3) jac jaf)) (jax (i:=5) S.nd rfl (Or.inl rfl))
    (jae (jal (i:=4) S.nd rfl (Or.inl rfl) (jah jas (pv 4) (jah jf0 jab jab)))))
    (jae (jaR (jam jeg (pv 4) jab (jar _))
    (jae (jap (jah jaB (pv 4) (jah jf0 jab jab))))
    jaq))))
    jaq)
    (jad (jal (i:=6) S.nd rfl (Or.inl rfl) jab)
    (jaV (nM3 H a k) (jal (i:=7) S.nd rfl (Or.inl rfl) (jah jaB (jah jav (jah ja9 (jah ja9 (jah ja9 (jah jaB (pv 2) (pv 6)) (jah jav (jah jav jab (pv 1)) (pv 1))) (pv 1)) jab) jab) (pv 6)))
    (jaV (nM3 H a k) (jal (i:=7) S.nd rfl (Or.inl rfl) (jah jaB (jah ja9 (jah jav (pv 7) (pv 7)) (jah jav jab (pv 1))) (pv 6)))
    (jae (jap (jah jaB (jah jav (jah jaB (jah jav (pv 7) (pv 7)) (pv 6)) jab) (jah jf0 jab jab))))))))))),?_⟩
  walk_at "rd";refine⟨by decide,fun p hp=>⟨.list (ns.map PyData.int),.list [],.lst ((Same.new hp _).seq hS) (RdsAll.ints ns),.lst (SqL.of upd_same) .nil,PySem.W.ke_shaped_ints ns,by decide,_,rfl,?_⟩,?_⟩
  . have hS':=(Same.new hp (.lst [])).seq hS
    have el:(ns.map V.int).length=ns.length:=xaa _;cases ns with
    | nil =>
      refine iteF ?_;exact⟨0,k,rfl,Same.new hp _,h0,h1⟩
    | cons n r =>
      refine iteT ⟨_,.inl hS',?_,?_⟩
      . rw[el];simp
      . have hp1:(0:Int) < ((n::r).length:Nat):=by simp
        have b1:=xap k (show (((n::r).length:Nat):Int)≠0 by omega);have b2:=xal k hp1;obtain⟨c,hc⟩:=jiU (ns:=n::r) b1 b2;refine⟨a,_,_,_,rfl,rfl,hS',by rw[el];exact hc,_,.inl hS',by rw[el];exact hp1,.o (by rw[el];omega) (by rw[el];omega),?_⟩;refine⟨c,_,rfl,Same.new hp _,xaD h0 (by rw[el];omega),?_⟩;rw[el];exact Int.le_trans (Int.ediv_le_self _ h0) h1
  rintro σ1 H1 ⟨cell,turn,rfl,s1,t0,t1⟩;walk_at "rd";have e31:(10:Int)^31=10000000000000000000000000000000:=by decide
  have e31':(10:Int)^Int.toNat 31=10000000000000000000000000000000:=by decide
  rw[e31] at q;refine⟨⟨by decide,by decide,by decide⟩,jbR (fun c=>?_) fun c=>⟨cell,turn,none,none,rfl,s1⟩,?_⟩
  . refine⟨_,rfl,turn,rfl,by omega,by omega,ja8 (lo:=0) (n:=turn.toNat) (fun i σ H2=>H2=H1 /\ ∃(left:Int) (o:Option V),σ=[some (.ref a),some (.int k),some (.int cell),some (.int turn),some (.int left),o,none,none] /\ 0 <= left) ⟨rfl,_,none,rfl,by split<;>omega⟩ ?_ ?_⟩
    . rintro i σ H2 hi ⟨rfl,left,o,rfl,hl⟩
      walk_at "rd";rw[e31'];exact⟨⟨by decide,by decide,by decide⟩,by decide,.o (by decide) (by decide),xaD hl (by decide)⟩
    . rintro σ H2 ⟨rfl,left,o,rfl,hl⟩
      walk_at "rd";rw[e31'];refine jbR (fun c=>⟨⟨by decide,by decide,by decide⟩,by decide,q _ _ s1 (xap _ (by decide)) (xal _ (by decide))⟩) fun c=>⟨cell,turn,_,_,rfl,s1⟩
  rintro σ2 H2 ⟨cell,turn,o4,o5,rfl,s2⟩;walk_at "rd";have k1:0<=7919*k*k/\7919*k*k<=7919000000:=by
    have z1:0<=7919*k:=by omega
    exact⟨Int.mul_nonneg z1 h0,Int.le_trans (Int.mul_le_mul_of_nonneg_left h1 z1) (by omega)⟩
  have m1:=xap cell (show (618970019642690137449562111:Int)≠0 by decide);have m2:=xal cell (show (0:Int)<618970019642690137449562111 by decide);refine⟨by decide,.o (by decide) (by decide),.o (by omega) (by omega),.o (by omega) (by omega),.o (by omega) (by omega),.o (by omega) (by omega),.o (by decide) (by decide),by decide,⟨_,_,_,_,_,rfl,xap _ (by decide),xal _ (by decide),s2⟩,?_⟩;rintro σ3 H3 ⟨c3,c4,c5,c6,n,rfl,n0,n1,s3⟩;walk_at "rd";have bn:Fit n:=.o (by omega) (by omega);refine⟨bn,bn,.o (by decide) (by decide),.o (by omega) (by omega),by decide,⟨_,_,_,_,_,rfl,xap _ (by decide),xal _ (by decide),s3⟩,?_⟩;rintro σ4 H4 ⟨c3,c4,c5,c6,n,rfl,n0,n1,s4⟩;walk_at "rd";rw[e31'];have bn:Fit n:=.o (by omega) (by omega);have r1:=xap (n*n) (show (618970019642690137449562111:Int)≠0 by decide);have r2:=xal (n*n) (show (0:Int)<618970019642690137449562111 by decide);exact⟨bn,bn,by decide,.o (by omega) (by omega),.o (by decide) (by decide),⟨by decide,by decide,by decide⟩,by decide,q _ _ s4 (xap _ (by decide)) (xal _ (by decide))⟩
def az (c:Nat):Bool:=decide (97<=c/\c<=122)
def nm (x:Str):Bool:=decide (1<=x.cps.size/\x.cps.size<=8)&&x.cps.toList.all az
def AZ (x:Str):Prop:=∀c∈x.cps.toList,97<=c/\c<=122
def Lo (x:Str):Prop:=∀c∈x.cps.toList,c<128
def abc:Str:=Str.ofString "abcdefghijklmnopqrstuvwxyz"
theorem jlr {x:Str} (h:Lo x):Asc x:=by
 unfold Asc;rw[Array.all_eq_true];intro i hi;exact decide_eq_true (h _ (by simp))
theorem AZ.lo {x:Str} (h:AZ x):Lo x:=fun c hc=>by have:=h c hc;omega
theorem AZ.nm {x:Str} (h:AZ x):nm x=decide (1<=x.cps.size/\x.cps.size<=8):=by
 unfold My.nm;have e:x.cps.toList.all az=true:=xaR.mpr fun c hc=>decide_eq_true (h c hc);rw[e,Bool.and_true]
theorem jls {x:Str} {c:Nat} (hc:c∈x.cps.toList) (h:az c=false):nm x=false:=by
 unfold nm;have e:x.cps.toList.all az=false:=List.all_eq_false.mpr ⟨c,hc,by rw[h];decide⟩;rw[e,Bool.and_false]
theorem jlt {c:Nat} (h:abc.cps[i]?=some c):97<=c/\c<=122:=by
 have e:abc.cps.all az=true:=by decide +kernel
 rw[Array.all_eq_true] at e;obtain⟨hi,rfl⟩:=Array.getElem?_eq_some_iff.mp h;exact of_decide_eq_true (e i hi)
theorem jlu (c d:Nat):([c] < [d])=(c<d):=by
 simp [List.cons_lt_cons_iff]
theorem jhU {x:Str} (h0:0<=j) (h1:j<=x.cps.size):(∀c∈(Txt.slice x none (some j)).cps.toList,c∈x.cps.toList)/\(Txt.slice x none (some j)).cps.size<=x.cps.size:=by
 have e:Txt.slice x none (some j)=_:=StrLaws.sliceText_to (x:=x) (j:=j) ⟨h0,by rw[Array.length_toList];exact h1⟩;rw[e];refine⟨fun c hc=>?_,?_⟩
 ·exact xaK (xaH hc)
 ·rw[xad,xag,xaq,Array.length_toList];omega
theorem jgl {x:Str} (h0:0<=j) (h1:j<=x.cps.size):(∀c∈(Txt.slice x (some j) none).cps.toList,c∈x.cps.toList)/\(Txt.slice x (some j) none).cps.size<=x.cps.size:=by
 have e:Txt.slice x (some j) none=_:=StrLaws.sliceText_from (x:=x) (i:=j) ⟨h0,by rw[Array.length_toList];exact h1⟩;rw[e];refine⟨fun c hc=>?_,?_⟩
 ·exact xaK (xaH hc)
 ·rw[xad,xag,xaq,Array.length_toList];omega
def jjp:Sp:=fun vs H Q _=>∃x:Str,vs=[.str x]/\Lo x/\x.cps.size<=900/\∀H',Same H H'->Q (.bl (nm x)) H'
theorem jkm (T:Tx K mg t1 t2) (F:At K mg "is_name" jd4 ["text"] []):jaw P w K mg base CX0 1 "is_name" ["text"] [] jjp:=by
 refine F.ok jev (fun vs H Q E h=>?_) (fun f cdv A outer s H vs Q E hr h=>?_)
 ·obtain⟨x,rfl,_⟩:=h;rfl
 obtain⟨x,rfl,hx,h9,q⟩:=h;have S:=jev;refine⟨_,(jad (jaR (PW.pt (jeW (jdw (jcF (jau jfz rfl T.m_isinstance boot_isinstance (jaa (pv 0) (jaa (jjD (v:=.ty "str") rfl T.m_str boot_str rfl) jac jaf) jaf)))) (jdu (jdw (jin jkU jkU jab (jau jf2 rfl T.m_len PySem.boot_len (jaa (pv 0) jac jaf)) (jce rfl T.m_MOST_LETTERS T.r_MOST_LETTERS))))))
  (jae (jap jbq))
  jaq)
  (jae (jap (jau (jei rfl) rfl T.m_all boot_all (jaa (ja6 rfl (N':=["sign"]) (ix:=[]) (by walk_at "cs") (jk9 (pv 0)) (fun _ _ _ _=>jax (i:=0) (show (["sign"]:List Str).Nodup from by decide +kernel) rfl (Or.inl rfl)) (fun _ _ _ _=>jbb) (fun _ _ _ _=>(jim jfc jfc ja7 (pv 0) ja7))) jac jep))))),?_⟩
 walk_at "rf";refine⟨_,.str x,_,rfl,?_⟩;rw[if_neg (by decide)];refine⟨x.cps.size,⟨xaw (show x.length<=900 from h9) (by decide),rfl⟩,?_⟩;by_cases c1:1<=x.cps.size/\x.cps.size<=8
 ·rw[if_pos (by omega),if_pos (by omega)];refine⟨jlr hx,fun acc hacc=>?_⟩;refine compS (fun c=>.bl (az c)) (by omega) hacc ?_ ?_
  ·intro c H3 R hc s3 hR;walk_at "rf";have e1:(Str.ofString "a").cps.toList=[97]:=by decide +kernel
   have e2:(Str.ofString "z").cps.toList=[122]:=by decide +kernel
   rw[e1];simp only[e2,jlu,List.toList_toArray];have q:=hR H3 (Same.refl _);unfold az at q;by_cases c2:c<97
   ·rw[decide_eq_false (by omega)] at q;rw[if_pos c2];exact q
   ·rw[if_neg c2];rw[show (!decide (122<c))=decide (97<=c/\c<=122) from by by_cases z:122<c<;>simp [z]<;>omega];exact q
  ·intro H1 s1 e1;refine⟨x.cps.toList.map az,by rw[xbl];exact SqL.of e1,?_⟩;have q:=q H1 s1;unfold nm at q;rw[decide_eq_true c1,Bool.true_and] at q;rw[List.all_map];exact q
 ·have q:=q H (Same.refl _);unfold nm at q;rw[decide_eq_false c1,Bool.false_and] at q;by_cases c2:(1:Int)<=(x.cps.size:Int)
  ·rw[if_pos c2,if_neg (by omega)];exact q
  ·rw[if_neg c2];exact q
def jlv:Sp:=fun vs H Q _=>∃a b:Int,vs=[.int a,.int b]/\Q (.int (Int.gcd a b:Nat)) H
theorem jlw (T:Tx K mg t1 t2) (F:At K mg "_law_divisor" jbQ ["one","other"] []):jaw P w K mg base CX0 1 "_law_divisor" ["one","other"] [] jlv:=by
 refine F.ok jcy (fun vs H Q E h=>?_) (fun f cdv A outer s H vs Q E hr h=>?_)
 ·obtain⟨a,b,rfl,_⟩:=h;rfl
 obtain⟨a,b,rfl,q⟩:=h;have S:=jcy;refine⟨_,(jad (jal (i:=0) S.nd rfl (Or.inl rfl) (jau jbH rfl T.m_abs boot_abs (jaa (pv 0) jac jaf)))
  (jad (jal (i:=1) S.nd rfl (Or.inl rfl) (jau jbH rfl T.m_abs boot_abs (jaa (pv 1) jac jaf)))
  (jad (jez PassesOwn.never (jam jeg (pv 1) jab (jar _))
  (jae (jkS (i:=0) (j:=1) rfl S.nd rfl rfl (by decide) rfl rfl (jaa (pv 1) (jaa (jah jaB (pv 0) (pv 1)) jac jaM) jaf) rfl)))
  (jae (jap (pv 0)))))),?_⟩
 walk_at "rd";refine⟨fun n σ H2=>H2=H/\∃(x y:Int),σ=[some (.int x),some (.int y)]/\0<=x/\0<=y/\Int.gcd x y=Int.gcd a b/\n=y.toNat,⟨_,rfl,_,_,rfl,by split<;>omega,by split<;>omega,jhG a b,rfl⟩,?_⟩;rintro n σ H2 ⟨rfl,x,y,rfl,hx,hy,hgg,rfl⟩;walk_at "rd";by_cases c:0<y
 ·rw[if_pos c];refine⟨fun σ' H'=>σ'=[some (.int y),some (.int (x % y))]/\H'=H2,fun σ' H' ⟨h1,h2⟩=>?_,c,rfl,rfl⟩;have b1:=xap x (show y≠0 by omega);have b2:=xal x c;exact⟨_,by omega,h2,y,x % y,h1,by omega,b1,(jgd x y hx).trans hgg,rfl⟩
 ·rw[if_neg c];have e:y=0:=by omega
  subst e;rw[<- hgg,Int.gcd_zero_right] at q;have e2:((x.natAbs:Nat):Int)=x:=by omega
  rw[e2] at q;exact q
theorem gcd4 (x y z w:Int):((Int.gcd (Int.gcd x y:Nat) (Int.gcd z w:Nat):Nat):Int)=gl [x,y,z,w]:=by
 have p1:((Int.gcd (Int.gcd x y:Nat) (Int.gcd z w:Nat):Nat):Int) ∣ (Int.gcd x y:Nat):=xbn ..;have p2:((Int.gcd (Int.gcd x y:Nat) (Int.gcd z w:Nat):Nat):Int) ∣ (Int.gcd z w:Nat):=xbk ..;have d:((Int.gcd (Int.gcd x y:Nat) (Int.gcd z w:Nat):Nat):Int) ∣ gl [x,y,z,w]:=jfm fun n hn=>by
  simp only[xaf,xam,or_false] at hn;rcases hn with rfl | rfl | rfl | rfl
  ·exact xbf p1 (xbn ..)
  ·exact xbf p1 (xbk ..)
  ·exact xbf p2 (xbn ..)
  ·exact xbf p2 (xbk ..)
 have d':gl [x,y,z,w] ∣ ((Int.gcd (Int.gcd x y:Nat) (Int.gcd z w:Nat):Nat):Int):=xbt (xbt (jba (by simp)) (jba (by simp))) (xbt (jba (by simp)) (jba (by simp)));exact Int.dvd_antisymm (by omega) (jbA _) d d'
def Mk (σ:L2.St) (te:TE) (φ:V->Hp->Prop):Prop:=∀H R,(∀v H',Same H H'->φ v H'->R v H')->te σ H R
def MkA (σ:L2.St) (ta:TA) (φ:List V->Hp->Prop):Prop:=∀H R,(∀v H',Same H H'->φ v H'->R v H')->ta σ H R
inductive Prs (H:Hp):List Addr->List (Int × Int)->Prop
 | nil:Prs H [] []
 | cons {r:Addr} {p:Int × Int} {rs:List Addr} {ps:List (Int × Int)}:H r=some (.tup [.int p.1,.int p.2])->Prs H rs ps->Prs H (r::rs) (p::ps)
theorem Prs.len {ps:List (Int × Int)} (h:Prs H rs ps):rs.length=ps.length:=by
 induction h with
 | nil=>rfl
 | cons _ _ ih=>rw[xax,xax,ih]
theorem Prs.keep {ps:List (Int × Int)} (h:Prs H rs ps) (s:SameT H H'):Prs H' rs ps:=by
 induction h with
 | nil=>exact .nil
 | cons e _ ih=>exact .cons (s _ _ e) ih
def IsP (p:Int × Int) (v:V) (H:Hp):Prop:=∃r,v=.ref r/\H r=some (.tup [.int p.1,.int p.2])
def RowA (ps:List (Int × Int)) (vs:List V) (H:Hp):Prop:=∃rs:List Addr,vs=rs.map V.ref/\Prs H rs ps
def IsL (ps:List (Int × Int)) (v:V) (H:Hp):Prop:=∃(l:Addr) (rs:List Addr),v=.ref l/\H l=some (.lst (rs.map V.ref))/\Prs H rs ps
theorem IsL.keep {ps:List (Int × Int)} {v:V} (h:IsL ps v H) (s:Same H H'):IsL ps v H':=by
 obtain⟨l,rs,rfl,h1,h2⟩:=h;exact⟨l,rs,rfl,s _ _ h1,h2.keep s.t⟩
def MkI (σ:L2.St) (te:TE) (a:Int):Prop:=∀H R,R (.int a) H->te σ H R
variable {σ ρ:L2.St}
theorem jbS :MkI σ (tC (.int a)) a:=fun _ _ h=>h
theorem jaZ {ta tb:TE} {b:Int} (ha:MkI σ ta a) (hb:MkI σ tb b):Mk σ (jjQ (jeC ta (jeC tb jgD))) (IsP (a,b)):=fun H R q =>
 ha _ _ (hb _ _ ⟨xaF (jaP (show 2<1000 by decide)),fun p hp=>q _ _ (Same.new hp _) ⟨p,rfl,upd_same⟩⟩)
theorem jdd :MkA σ jgD (RowA []):=fun H R q=>q _ _ (fun _ _ z=>z) ⟨[],rfl,.nil⟩
variable {te:TE}
theorem jaF {ta:TA} {p:Int × Int} {ps:List (Int × Int)} (h:Mk σ te (IsP p)) (k:MkA σ ta (RowA ps)):MkA σ (jeC te ta) (RowA (p::ps)):=fun H R q=>h H _ fun v H1 s1 ⟨r,e,hr⟩=>k H1 _ fun ws H2 s2 ⟨rs,e',hs⟩=>q _ _ (s1.trans s2) ⟨r::rs,by rw[e,e'];rfl,.cons (s2 _ _ hr) hs⟩
theorem jfr {ta:TA} {ps:List (Int × Int)} (k:MkA σ ta (RowA ps)) (hl:ps.length<1000):Mk σ (jjR ta) (IsL ps):=fun H R q=>k H _ fun vs H1 s1 ⟨rs,e,hs⟩=>by
 subst e;exact⟨xaF (jaP (by rw[xaa,hs.len];exact hl)),fun p hp=>q _ _ (s1.trans (Same.new hp _)) ⟨p,rs,rfl,upd_same,hs.keep (Same.new hp _).t⟩⟩
def L3 (K:PySem.W.Frag) (H:Hp) (a:Addr) (u:Tri):Prop:=SqL K H a [.int u.x,.int u.y,.int u.z]
def A3 (H:Hp) (a:Addr) (u:Tri):Prop:=H a=some (.lst [.int u.x,.int u.y,.int u.z])
variable {u:Tri}
theorem A3.l3 {K:PySem.W.Frag} {a:Addr} (h:A3 H a u):L3 K H a u:=SqL.of h
def tc (u:Tri) (k:Nat):Int:=if k=0 then u.x else if k=1 then u.y else u.z
theorem at3 {k:Nat} (h:k<3):atI [V.int u.x,V.int u.y,V.int u.z] (0+(k:Int))=some (V.int (tc u k)):=by
 obtain rfl | rfl | rfl:=lt3 h<;>rfl
def rfs (ps:List (Addr × Tri)):List V:=(ps.map Prod.fst).map V.ref
theorem jiV (ps:List (Addr × Tri)) (p:Addr × Tri):rfs ps++[.ref p.1]=rfs (ps++[p]):=by
 unfold rfs;simp
def Acc3 (f:Nat->Tri) (H1:Hp) (acc:Addr) (i:Nat) (xs:List V) (H:Hp):Prop:=Same H1 H/\H acc=some (.lst xs)/\∃ps:List (Addr × Tri),xs=rfs ps/\ps.length=i/\ps.map Prod.snd=(List.range i).map f/\∀p∈ps,A3 H p.1 p.2/\p.1≠acc
theorem Acc3.start {f:Nat->Tri} {acc:Addr} (h:H1 acc=none):Acc3 f H1 acc 0 [] (upd H1 acc (.lst [])):=⟨Same.new h _,upd_same,[],rfl,rfl,rfl,fun _ z=>nomatch z⟩
theorem Acc3.step {f:Nat->Tri} {H4:Hp} {acc:Addr} (ha:H1 acc=none) (h:Acc3 f H1 acc i xs H) (s4:Same H H4) (hr:H r=none) (e:A3 H4 r (f i)):H4 acc=some (.lst xs)/\Acc3 f H1 acc (i+1) (xs++[.ref r]) (upd H4 acc (.lst (xs++[.ref r]))):=by
 obtain⟨g1,g2,ps,rfl,hl,hm,hp⟩:=h;have ra:r≠acc:=Ne.symm (jaD g2 hr);refine⟨s4 _ _ g2,Same.keepN (g1.trans s4) ha _,upd_same,ps++[(r,f i)],jiV ps (r,f i),by rw[xab,hl];rfl,?_,fun p hp'=>?_⟩
 ·rw[xaj,hm,xbe,xaj];rfl
 ·rcases xav.mp hp' with h | h
  ·obtain⟨h1,h2⟩:=hp p h;exact⟨by unfold A3;rw[jat h2];exact s4 _ _ h1,h2⟩
  ·rw[xao.mp h];exact⟨by unfold A3;rw[jat ra];exact e,ra⟩
variable {Z:Hp->Prop}
theorem jkn {a:Addr} {zs:List V} {g:TG} {acc:Addr} (f:Nat->Tri) (hn:zs.length<1000) (hacc:H1 acc=none) (hz:SqL K H1 a zs)
  (hs:∀(i:Nat) (z:V) (v0:L2.St) (H3:Hp) (R:V->Hp->Prop),zs[i]?=some z->v0.length=n->Same H1 H3->(∀r H4,Same H3 H4->H3 r=none->A3 H4 r (f i)->R (.ref r) H4)->g z (v0++ρ) H3 fun σ2 H2=>(∃v:L2.St,v.length=n/\σ2=v++ρ)/\te σ2 H2 R)
  (hd:∀(ps:List (Addr × Tri)) H',Same H1 H'->H' acc=some (.lst (rfs ps))->ps.map Prod.snd=(List.range zs.length).map f->(∀p∈ps,A3 H' p.1 p.2)->Z H')
  (mono:∀z σ H (A B:L2.St->Hp->Prop),(∀σ' H',A σ' H'->B σ' H')->g z σ H A->g z σ H B):jdo (Itl K a) n ρ g jcg te acc Z H1:=by
 refine⟨fun i m xs H=>Acc3 f H1 acc i xs H/\i<=zs.length/\m=zs.length-i,⟨zs.length,.start hacc,xaN _,rfl⟩,?_⟩;rintro i m xs H ⟨A,hi,rfl⟩;have sq:=A.1.seq hz;have lx:xs.length=i:=by
  obtain⟨_,_,ps,rfl,hl,_⟩:=A;unfold rfs;rw[xaa,xaa,hl]
 by_cases hlt:i<zs.length
 ·have ez:zs[i]?=some zs[i]:=xae hlt;refine .inr ⟨⟨zs,zs[i],sq,ez⟩,(fun y H4=>∃r,y=.ref r/\Same H H4/\H r=none/\A3 H4 r (f i)),fun _=>False,?_,fun _ z=>z.elim,?_⟩
  ·rintro y H4 ⟨r,rfl,s4,nr,er⟩;obtain⟨h1,h2⟩:=A.step hacc s4 nr er;exact⟨h1,jaP (by omega),zs.length-(i+1),by omega,h2,hlt,rfl⟩
  ·rintro v0 x H' l0 ⟨rfl,hx⟩;have ex:x=zs[i]:=by
    have z:=hx zs sq;rw[ez] at z;exact (Option.some.inj z).symm
   subst ex;refine mono _ _ _ _ _ (fun σ' H'' h=>?_) (hs i _ v0 H' (fun y H4=>∃r,y=.ref r/\Same H' H4/\H' r=none/\A3 H4 r (f i)) ez l0 A.1 fun r H4 s4 nr er=>⟨r,rfl,s4,nr,er⟩);refine⟨h.1,?_⟩;simp only[jcg,if_true];exact h.2
 ·have:i=zs.length:=by omega
  subst this;obtain⟨g1,g2,ps,rfl,hl,hm,hp⟩:=A;exact .inl ⟨⟨zs,sq,xac _⟩,hd ps H g1 g2 hm fun p h=>(hp p h).1⟩
structure Tyd (K:PySem.W.Frag) (mg:Str->Option Value) (t1 t2:Tok) (cs:Nat->Addr) (S Y:Addr):Prop extends Tx K mg t1 t2 where
 m_SightError:mg "SightError"=some (.ref S)
 m_NoName:mg "NoName"=some (.ref (cs 0))
 m_NoBoard:mg "NoBoard"=some (.ref (cs 1))
 m_TooMany:mg "TooMany"=some (.ref (cs 2))
 m_NoDeed:mg "NoDeed"=some (.ref (cs 3))
 x_NoName:Exc K (cs 0) "ValueError" "ValueError.__new__" "ValueError.__init__" [.type "ValueError",.type "Exception",.type "BaseException",.type "object"]
 x_NoBoard:Exc K (cs 1) "ValueError" "ValueError.__new__" "ValueError.__init__" [.type "ValueError",.type "Exception",.type "BaseException",.type "object"]
 x_TooMany:Exc K (cs 2) "ValueError" "ValueError.__new__" "ValueError.__init__" [.type "ValueError",.type "Exception",.type "BaseException",.type "object"]
 x_NoDeed:Exc K (cs 3) "ValueError" "ValueError.__new__" "ValueError.__init__" [.type "ValueError",.type "Exception",.type "BaseException",.type "object"]
 xc:∀i,i<4->XCls K (cs i)
 em:∀i,i<4->PySem.W.exmOne K (.ref (cs i)) (.ref S)=some true
 kt:∀i j,i<4->j<4->PySem.W.kitOne K (.ref (cs i)) (.ref (cs j))=some (decide (i=j))
 m_Yard:mg "Yard"=some (.ref Y)
 cl:Cls K Y
 nS:NoAttr K Y "standing"
 nP:NoAttr K Y "past"
 mkY:PySem.W.makesIn K Y=true
 kpY:PySem.W.keepIn K (.ref Y)=true
variable {cs:Nat->Addr}
theorem Tyd.r_NoName (_:Tyd K mg t1 t2 cs S Y):RelV (.ref (cs 0)) (.ref (cs 0)):=rfl
theorem Tyd.r_NoBoard (_:Tyd K mg t1 t2 cs S Y):RelV (.ref (cs 1)) (.ref (cs 1)):=rfl
theorem Tyd.r_TooMany (_:Tyd K mg t1 t2 cs S Y):RelV (.ref (cs 2)) (.ref (cs 2)):=rfl
theorem Tyd.r_NoDeed (_:Tyd K mg t1 t2 cs S Y):RelV (.ref (cs 3)) (.ref (cs 3)):=rfl
def axk (ps:List Pt):Int:=if jaG 0 (pt ps 0) (pt ps 1) (pt ps 2)≠0 then 0 else if jaG 1 (pt ps 0) (pt ps 1) (pt ps 2)≠0 then 1 else 2
structure GoodB (ps:List Pt):Prop where
 n3:3<=ps.length
 n8:ps.length<=8
 na:¬jfM (pt ps 0) (pt ps 1) (pt ps 2)
 flat:∀i,i<ps.length->hgt (jaG 0 (pt ps 0) (pt ps 1) (pt ps 2)) (-jaG 1 (pt ps 0) (pt ps 1) (pt ps 2)) (jaG 2 (pt ps 0) (pt ps 1) (pt ps 2)) (jaG 3 (pt ps 0) (pt ps 1) (pt ps 2)) (pt ps i)=0
 rnd:Rnd (axk ps) ps
def jgm (C:Addr):Sp:=fun vs H Q E=>∃(l:Addr) (rs:List Addr) (ps:List Pt),vs=[.ref l]/\Cor H l rs ps/\(GoodB ps->∀(t:Addr) (H':Hp),Same H H'->H' t=some (.tup ((frm ps rs).map V.ref))->Q (.ref t) H')/\(¬GoodB ps->∀H':Hp,Same H H'->E (.ref C) none H')
theorem jiW {b x y w:Int} (h:pln [a,b,c,d]=[x,y,z,w]):(x=0->a=0)/\(y=0->b=0)/\(z=0->c=0):=by
 have ea:=xaz (jba (ns:=[a,b,c,d]) (n:=a) (by simp));have eb:=xaz (jba (ns:=[a,b,c,d]) (n:=b) (by simp));have ec:=xaz (jba (ns:=[a,b,c,d]) (n:=c) (by simp));have el:low [a,b,c,d]=[a / gl [a,b,c,d],b / gl [a,b,c,d],c / gl [a,b,c,d],d / gl [a,b,c,d]]:=rfl;unfold pln at h;rw[el] at h;generalize gl [a,b,c,d]=g at ea eb ec h;generalize a / g=x' at ea h;generalize b / g=y' at eb h;generalize c / g=z' at ec h;generalize d / g=w' at h;have h:(if plb x' y' z'=true then [x',y',z',w'] else [-x',-y',-z',-w'])=[x,y,z,w]:=h;have k:(x=0->x'=0)/\(y=0->y'=0)/\(z=0->z'=0):=by
  split at h
  ·cases h;exact⟨id,id,id⟩
  ·cases h;exact⟨fun q=>by omega,fun q=>by omega,fun q=>by omega⟩
 refine⟨fun q=>?_,fun q=>?_,fun q=>?_⟩
 ·rw[<- ea,k.1 q,xbb]
 ·rw[<- eb,k.2.1 q,xbb]
 ·rw[<- ec,k.2.2 q,xbb]
theorem jlx {x y v:Int} (ep:pln [jaG 0 (pt ps 0) (pt ps 1) (pt ps 2),-jaG 1 (pt ps 0) (pt ps 1) (pt ps 2),jaG 2 (pt ps 0) (pt ps 1) (pt ps 2),jaG 3 (pt ps 0) (pt ps 1) (pt ps 2)]=[x,y,z,v])
  (hk:(k=0/\x≠0)\/(k=1/\x=0/\y≠0)\/(k=2/\x=0/\y=0/\z≠0)):k=axk ps:=by
 obtain⟨nx,ny,nz⟩:=jlp ep;obtain⟨zx,zy,zz⟩:=jiW ep;unfold axk;rcases hk with ⟨rfl,h⟩ | ⟨rfl,h0,h⟩ | ⟨rfl,h0,h1,h⟩
 ·rw[if_pos (nx h)]
 ·rw[if_neg (by intro q;exact q (zx h0)),if_pos (by intro e;exact ny h (by omega))]
 ·have:=zy h1;rw[if_neg (by intro q;exact q (zx h0)),if_neg (by omega)]
theorem jhV (T:Tyd K mg t1 t2 cs SE Y) (F:At K mg "made_board" jcl ["corners"] []) (Dh:jaw P w K mg base CX0 4 "in_line" ["one","other","third"] [] jjj) (dE:jaw P w K mg base CX0 5 "plane_through" ["one","other","third"] [] jfp) (Di:jaw P w K mg base CX0 2 "side_of" ["plane","spot"] [] jjk) (Db:jaw P w K mg base CX0 1 "flat_axis" ["plane"] [] jjl) (Dc:jaw P w K mg base CX0 5 "is_convex" ["corners","axis"] [] jjo) (Dl:jaw P w K mg base CX0 2 "formed" ["corners"] [] jgh):jaw P w K mg base (XOk P w) 6 "made_board" ["corners"] [] (jgm (cs 1)):=by
 refine F.okX jc4 (fun vs H Q E h=>?_) (fun f cdv A outer s H vs Q E hr h=>?_)
 ·obtain⟨l,rs,ps,rfl,_⟩:=h;rfl
 obtain⟨l,rs,ps,rfl,hc,q,qb⟩:=h;have S:=jc4;refine⟨_,(jad (jaR (PW.pt (jeW (jam jjL (jau jaz rfl T.m_len PySem.boot_len (jaa (pv 0) jac jaf)) jab (jar _)) (jdu (jam jeg (jau jaz rfl T.m_len PySem.boot_len (jaa (pv 0) jac jaf)) (jce rfl T.m_MOST_CORNERS T.r_MOST_CORNERS) (jar _)))))
  (jae (jbt rfl rfl T.m_NoBoard T.x_NoBoard (jaa ja7 jac jaj) jbW))
  jaq)
  (jad (jaR (jcF (jai Dh hr.m rfl jaA (jaa (jak jan (pv 0) jab) (jaa (jak jan (pv 0) jab) (jaa (jak jan (pv 0) jab) jac jaI) jaI) jaI)))
  (jae (jbt rfl rfl T.m_NoBoard T.x_NoBoard (jaa ja7 jac jaj) jbW))
  jaq)
  (jad (jal (i:=1) S.nd rfl (Or.inl rfl) (jai dE hr.m rfl jaA (jaa (jak jan (pv 0) jab) (jaa (jak jan (pv 0) jab) (jaa (jak jan (pv 0) jab) jac jaI) jaI) jaI)))
  (jad (jbo PassesOwn.leaving rfl (jcP (pv 0)) (jax (i:=2) S.nd rfl (Or.inl rfl))
  (jae (jaR (jam jeA (jai Di hr.m rfl jaA (jaa (pv 1) (jaa (pv 2) jac jaf) jaf)) jab (jar _))
  (jae (jbt rfl rfl T.m_NoBoard T.x_NoBoard (jaa ja7 jac jaj) jbW))
  jaq)))
  (jad (jaR (jdw (jcF (jai Dc hr.m rfl jaA (jaa (pv 0) (jaa (jai Db hr.m rfl jaA (jaa (pv 1) jac jaf)) jac jaH) jaf))))
  (jae (jbt rfl rfl T.m_NoBoard T.x_NoBoard (jaa ja7 jac jaj) jbW))
  jaq)
  (jae (jap (jai Dl hr.m rfl jaA (jaa (pv 0) jac jaf))))))))),?_⟩
 have ln:=hc.2.len;have lm:(rs.map V.ref).length=ps.length:=by rw[xaa,ln]
 have kl:SqL K H l (rs.map V.ref):=SqL.of hc.1;try walk_at "rf"
 refine⟨_,.inl kl,?_⟩;rw[lm];refine jbR (fun c1=>⟨by decide,qb (fun B=>by have:=B.n3;omega) _ (Same.refl _)⟩) fun c1=>?_;refine⟨_,.inl kl,?_⟩;rw[lm];refine jbR (fun c2=>⟨by decide,qb (fun B=>by have:=B.n8;omega) _ (Same.refl _)⟩) fun c2=>?_;have n3:3<=ps.length:=by omega
 have n8:ps.length<=8:=by omega
 obtain⟨a1,a2⟩:=hc.2.get (i:=0) (by omega);obtain⟨a3,a4⟩:=hc.2.get (i:=1) (by omega);obtain⟨a5,a6⟩:=hc.2.get (i:=2) (by omega);obtain⟨m0,m1,m2,m3⟩:=jgj a2.2 a4.2 a6.2;refine ixL kl (jaS (j:=0) a1) (ixL kl (jaS (j:=1) a3) (ixL kl (jaS (j:=2) a5) ?_));refine⟨_,_,_,_,_,_,rfl,a2,a4,a6,fun H1 s1=>⟨_,rfl,jbR (fun cl=>⟨by decide,qb (fun B=>B.na (by have z:=cl;unfold inl at z;have y:=of_decide_eq_true z;exact y)) _ s1⟩) fun cl=>?_⟩⟩;have na:¬jfM (pt ps 0) (pt ps 1) (pt ps 2):=fun z=>cl (decide_eq_true z);obtain⟨x,y,z,v,ep,sx,sy,sz,sv,g1',pb,hz⟩:=jhS (a:=jaG 0 (pt ps 0) (pt ps 1) (pt ps 2)) (b:=-jaG 1 (pt ps 0) (pt ps 1) (pt ps 2)) (c:=jaG 2 (pt ps 0) (pt ps 1) (pt ps 2)) (d:=jaG 3 (pt ps 0) (pt ps 1) (pt ps 2)) (fun z=>na ⟨z.1,by omega,z.2.2⟩) m0 m1.neg m2 m3;have er:rgh (pt ps 0) (pt ps 1) (pt ps 2)=[jaG 0 (pt ps 0) (pt ps 1) (pt ps 2),-jaG 1 (pt ps 0) (pt ps 1) (pt ps 2),jaG 2 (pt ps 0) (pt ps 1) (pt ps 2),jaG 3 (pt ps 0) (pt ps 1) (pt ps 2)]:=rfl;have kl1:=s1.seq kl;refine ixL kl1 (jaS (j:=0) a1) (ixL kl1 (jaS (j:=1) a3) (ixL kl1 (jaS (j:=2) a5) ?_));refine⟨_,_,_,_,_,_,rfl,a2.keep s1,a4.keep s1,a6.keep s1,na,fun g H2 s2 e2=>?_⟩;rw[er,ep] at e2;have s12:=s1.trans s2;have kl2:=s12.seq kl;refine⟨⟨_,kl2⟩,?_⟩;refine jdI (K:=K) (a:=l) (xs:=rs.map V.ref) (fun i σ H3=>H3=H2/\(∀i',i'<i->hgt (jaG 0 (pt ps 0) (pt ps 1) (pt ps 2)) (-jaG 1 (pt ps 0) (pt ps 1) (pt ps 2)) (jaG 2 (pt ps 0) (pt ps 1) (pt ps 2)) (jaG 3 (pt ps 0) (pt ps 1) (pt ps 2)) (pt ps i')=0)/\∃o2:Option V,σ=[some (.ref l),some (.ref g),o2]) ⟨rfl,fun i' h=>absurd h (Nat.not_lt_zero _),none,rfl⟩ (fun i σ H3 _ ⟨h,_⟩=>by rw[h];exact kl2) ?_ ?_
 ·rintro i r σ H3 hi ⟨rfl,al,o2,rfl⟩;have hlt:i<ps.length:=by
   have:=(xai.mp hi).1;omega
  obtain⟨b1,b2⟩:=(hc.2.keep s12.t).get hlt;rw[b1] at hi;cases hi;try walk_at "rf"
  refine⟨g,_,x,y,z,v,_,rfl,e2,sx,sy,sz,sv,b2,?_⟩;try walk_at "rf"
  refine jbR (fun c0=>?_) fun c0=>⟨by decide,qb (fun B=>c0 (by rw[hz _ (B.flat i hlt)];exact sgn0)) _ s12⟩;refine⟨fun i' hi'=>?_,_,rfl⟩;by_cases ci:i'<i
  ·exact al i' ci
  ·have ei:i'=i:=by omega
   rw[ei];exact jiS ep (jiT c0)
 ·rintro σ H3 ⟨rfl,al,o2,rfl⟩;try walk_at "rf"
  refine⟨g,x,y,z,v,rfl,e2,jlq pb,fun k hk=>?_⟩;have ek:=jlx ep hk;have kk:0<=k/\k<=2:=by
   rcases hk with ⟨rfl,h⟩ | ⟨rfl,_,h⟩ | ⟨rfl,_,_,h⟩<;>exact⟨by decide,by decide⟩
  have fl:∀i,i<ps.length->hgt (jaG 0 (pt ps 0) (pt ps 1) (pt ps 2)) (-jaG 1 (pt ps 0) (pt ps 1) (pt ps 2)) (jaG 2 (pt ps 0) (pt ps 1) (pt ps 2)) (jaG 3 (pt ps 0) (pt ps 1) (pt ps 2)) (pt ps i)=0:=fun i hi=>al i (by rw[lm];exact hi);refine⟨l,k,rs,ps,rfl,hc.keep s12,n3,n8,kk.1,kk.2,?_⟩;by_cases cr:Rnd k ps
  ·refine .inl ⟨cr,fun H4 s4=>?_⟩;have B:GoodB ps:=⟨n3,n8,na,fl,ek▸cr⟩;try walk_at "rf"
   refine⟨l,rs,ps,rfl,hc.keep (s12.trans s4),n3,n8,fun t H5 s5 e5=>?_⟩;exact q B t H5 (s12.trans (s4.trans s5)) e5
  ·refine .inr ⟨cr,fun H4 s4=>?_⟩;try walk_at "rf"
   exact⟨by decide,qb (fun B=>cr (ek▸B.rnd)) _ (s12.trans s4)⟩
def rm (M:List Addr) (H:Hp):Hp:=fun a=>if a∈M then none else H a
theorem jbi {a:Addr} {o:HO} (h:rm M H a=some o):H a=some o/\a∉M:=by
 unfold rm at h;split at h
 ·cases h
 ·exact⟨h,by assumption⟩
theorem jbK {a:Addr} {o:HO} (h:H a=some o) (n:a∉M):rm M H a=some o:=by
 unfold rm;rw[if_neg n];exact h
theorem jbr (M:List Addr) (H:Hp):Same (rm M H) H:=fun _ _ h=>(jbi h).1
theorem jaQ (s:Same H H'):Same (rm M H) (rm M H'):=fun _ _ h=>jbK (s _ _ (jbi h).1) (jbi h).2
def SX (S:List Addr) (H H':Hp):Prop:=∀b o,b∉S->H b=some o->H' b=some o
theorem SX.rm {S:List Addr} (s:SX S H H') (h:∀a∈S,a∈M):Same (rm M H) (rm M H'):=fun b o q=>jbK (s b o (fun z=>(jbi q).2 (h _ z)) (jbi q).1) (jbi q).2
theorem SX.refl (S:List Addr) (H:Hp):SX S H H:=fun _ _ _ h=>h
theorem SX.trans {S:List Addr} {J:Hp} (s:SX S H H') (t:SX S H' J):SX S H J:=fun b o n h=>t b o n (s b o n h)
theorem Same.x (s:Same H H') (S:List Addr):SX S H H':=fun b o _ h=>s b o h
inductive All2 {α β:Type} (R:α->β->Prop):List α->List β->Prop
 | nil:All2 R [] []
 | cons {a:α} {b:β} {as:List α} {bs:List β} (h:R a b) (t:All2 R as bs):All2 R (a::as) (b::bs)
section
variable {α β:Type} {R R':α->β->Prop}
theorem All2.len {as:List α} {bs:List β} (h:All2 R as bs):as.length=bs.length:=by
 induction h with
 | nil=>rfl
 | cons _ _ ih=>rw[xax,xax,ih]
theorem All2.mono {as:List α} {bs:List β} (h:All2 R as bs) (f:∀a b,R a b->R' a b):All2 R' as bs:=by
 induction h with
 | nil=>exact .nil
 | cons h _ ih=>exact .cons (f _ _ h) ih
theorem All2.app {as as':List α} {bs bs':List β} (h:All2 R as bs) (h':All2 R as' bs'):All2 R (as++as') (bs++bs'):=by
 induction h with
 | nil=>exact h'
 | cons h _ ih=>exact .cons h ih
theorem All2.get {as:List α} {bs:List β} (h:All2 R as bs):∀{i:Nat} {b:β},bs[i]?=some b->∃a,as[i]?=some a/\R a b:=by
  induction h with
  | nil=>intro i b e;cases e
  | cons h _ ih =>
    intro i b e;cases i with
    | zero=>cases e;exact⟨_,rfl,h⟩
    | succ i=>exact ih e
theorem All2.getA {as:List α} {bs:List β} (h:All2 R as bs):∀{i:Nat} {a:α},as[i]?=some a->∃b,bs[i]?=some b/\R a b:=by
  induction h with
  | nil=>intro i b e;cases e
  | cons h _ ih =>
    intro i b e;cases i with
    | zero=>cases e;exact⟨_,rfl,h⟩
    | succ i=>exact ih e
theorem All2.take {as:List α} {bs:List β} (h:All2 R as bs):∀n,All2 R (as.take n) (bs.take n):=by
  induction h with
  | nil=>intro n;rw[xbq,xbq];exact .nil
  | cons h _ ih =>
    intro n;cases n with
    | zero=>exact .nil
    | succ n=>exact .cons h (ih n)
theorem All2.drop {as:List α} {bs:List β} (h:All2 R as bs):∀n,All2 R (as.drop n) (bs.drop n):=by
  induction h with
  | nil=>intro n;rw[xbz,xbz];exact .nil
  | cons h t ih =>
    intro n;cases n with
    | zero=>exact .cons h t
    | succ n=>exact ih n
end
theorem jhW {α β:Type} {R:α->β->Prop}:∀{as:List α} {bs:List β},as.length=bs.length->(∀(i:Nat) (a:α),as[i]?=some a->∃b,bs[i]?=some b/\R a b)->All2 R as bs
  | [],[],_,_=>.nil
  | a :: as, b :: bs, hl, h => by
    refine .cons ?_ (jhW (Nat.succ.inj hl) fun i a' e=>h (i+1) a' e);obtain⟨b',e,r⟩:=h 0 a rfl;cases e;exact r
  | [],_::_,hl,_=>nomatch hl
  | _::_,[],hl,_=>nomatch hl
def BoAt (H:Hp) (t:Addr) (b:List Pt):Prop:=∃rs,H t=some (.tup (rs.map V.ref))/\Sps H rs b
theorem BoAt.keep {t:Addr} {b:List Pt} (h:BoAt H t b) (s:Same H H'):BoAt H' t b:=by
 obtain⟨rs,e,q⟩:=h;exact⟨rs,s _ _ e,q.keep s.t⟩
def ItAt (H:Hp) (r:Addr) (it:Str × List Pt):Prop:=(∃t,H r=some (.tup [.str it.1,.ref t])/\BoAt H t it.2)/\Lo it.1
theorem ItAt.keep {it:Str × List Pt} (h:ItAt H r it) (s:Same H H'):ItAt H' r it:=by
 obtain⟨⟨t,e,q⟩,l⟩:=h;exact⟨⟨t,s _ _ e,q.keep s⟩,l⟩
def StAt (H:Hp) (l:Addr) (st:List (Str × List Pt)):Prop:=∃rs,H l=some (.lst (rs.map V.ref))/\All2 (ItAt H) rs st
theorem StAt.keep {st:List (Str × List Pt)} (h:StAt H l st) (s:Same H H'):StAt H' l st:=by
 obtain⟨rs,e,q⟩:=h;exact⟨rs,s _ _ e,q.mono fun _ _ h=>h.keep s⟩
theorem kSP:¬(("past":Str)="standing"):=by decide +kernel
def jew (sL pL:Addr):List (Str × V):=[("standing",.ref sL),("past",.ref pL)]
theorem jd9 (sL pL:Addr):(jew sL pL).lookup ("standing":Str)=some (.ref sL):=by
 unfold jew;rw[xau];simp
theorem jgn (sL pL:Addr):(jew sL pL).lookup ("past":Str)=some (.ref pL):=by
 have e:(("past":Str)=="standing")=false:=by decide +kernel
 unfold jew;rw[xau,e,xau];simp
theorem jbG {sL:Addr} {m:Str} (h1:(m==("standing":Str))=false) (h2:(m==("past":Str))=false):(jew sL pL).lookup m=none:=by
 unfold jew;rw[xau,h1,xau,h2];rfl
theorem jgo (sL pL sN:Addr):jef "standing" (.ref sN) (jew sL pL)=jew sN pL:=by
 show (if ("standing":Str)="standing" then _ else _)=_;rw[if_pos rfl];rfl
theorem jko (sL pL:Addr):jef "past" (.ref pL) (jef "standing" (.ref sL) [])=jew sL pL:=by
 show (if ("standing":Str)="past" then _ else _)=_;rw[if_neg (fun z=>kSP z.symm)];rfl
def Mut (H:Hp) (m:Addr):Prop:=∃o,H m=some o/\∀xs,o≠.tup xs
theorem Mut.keep {m:Addr} (h:Mut H m) (s:Same H H'):Mut H' m:=by
 obtain⟨o,e,n⟩:=h;exact⟨o,s _ _ e,n⟩
theorem Mut.nn {m:Addr} (h:Mut H m):H m≠none:=by
 obtain⟨o,e,_⟩:=h;rw[e];exact fun z=>nomatch z
theorem Mut.ls {m:Addr} (h:H m=some (.lst xs)):Mut H m:=⟨_,h,fun _ z=>nomatch z⟩
theorem Mut.is {m dx:Addr} {fs:List (Str × V)} (h:H m=some (.ins Y dx fs)):Mut H m:=⟨_,h,fun _ z=>nomatch z⟩
theorem Mut.up {m p:Addr} {o:HO} (h:Mut H m) (n:∀xs,o≠.tup xs):Mut (upd H p o) m:=by
 by_cases c:m=p
 ·rw[c];exact⟨o,upd_same,n⟩
 ·obtain⟨o',e,n'⟩:=h;exact⟨o',by rw[jat c];exact e,n'⟩
structure YardAt (Y:Addr) (M:List Addr) (H:Hp) (y pL:Addr) (st:List (Str × List Pt)) (past:List (List (Str × List Pt))):Prop where
 yM:y∈M
 pM:pL∈M
 mu:∀m∈M,Mut H m
 ob:∃dx sL ss,H y=some (.ins Y dx (jew sL pL))/\H pL=some (.lst (ss.map V.ref))/\StAt (rm M H) sL st/\All2 (StAt (rm M H)) ss past
theorem YardAt.al {st:List (Str × List Pt)} {past:List (List (Str × List Pt))} (h:YardAt Y M H y pL st past):∀m∈M,H m≠none:=fun m hm=>(h.mu m hm).nn
theorem YardAt.ne {st:List (Str × List Pt)} {past:List (List (Str × List Pt))} (h:YardAt Y M H y pL st past):y≠pL:=by
 obtain⟨dx,sL,ss,h1,h2,_⟩:=h.ob;exact ne_of h1 h2 (by intro z;cases z)
theorem YardAt.keep {st:List (Str × List Pt)} {past:List (List (Str × List Pt))} (h:YardAt Y M H y pL st past) (s:Same H H'):YardAt Y M H' y pL st past:=by
 obtain⟨dx,sL,ss,h1,h2,h3,h4⟩:=h.ob;exact⟨h.yM,h.pM,fun m hm=>(h.mu m hm).keep s,dx,sL,ss,s _ _ h1,s _ _ h2,h3.keep (jaQ s),h4.mono fun _ _ q=>q.keep (jaQ s)⟩
theorem YardAt.off {S:List Addr} {st:List (Str × List Pt)} {past:List (List (Str × List Pt))} (h:YardAt Y M H y pL st past) (s:SX S H H') (hS:∀a∈S,a∈M) (al:∀m∈M,Mut H' m) (n1:y∉S) (n2:pL∉S):YardAt Y M H' y pL st past:=by
 obtain⟨dx,sL,ss,h1,h2,h3,h4⟩:=h.ob;exact⟨h.yM,h.pM,al,dx,sL,ss,s _ _ n1 h1,s _ _ n2 h2,h3.keep (s.rm hS),h4.mono fun _ _ q=>q.keep (s.rm hS)⟩
theorem YardAt.more {M':List Addr} {st:List (Str × List Pt)} {past:List (List (Str × List Pt))} (h:YardAt Y M H y pL st past) (hM:∀m∈M,m∈M') (al:∀m∈M',Mut H m) (s:Same (rm M H) (rm M' H)):YardAt Y M' H y pL st past:=by
 obtain⟨dx,sL,ss,h1,h2,h3,h4⟩:=h.ob;exact⟨hM _ h.yM,hM _ h.pM,al,dx,sL,ss,h1,h2,h3.keep s,h4.mono fun _ _ q=>q.keep s⟩
def nmL (st:List (Str × List Pt)):List Str:=st.map (·.1)
def stV (st:List (Str × List Pt)):List V:=(nmL st).map V.str
def jeO (Y:Addr):Sp:=fun vs H Q _=>∃(y dx sL pL:Addr) (st:List (Str × List Pt)),vs=[.ref y]/\H y=some (.ins Y dx (jew sL pL))/\StAt H sL st/\st.length<=900/\∀(l:Addr) (H':Hp),H l=none->Same H H'->H' l=some (.lst (stV st))->Q (.ref l) H'
def jgp (Y:Addr):Sp:=fun vs H Q _=>∃(y dx sL pL:Addr) (st:List (Str × List Pt)),vs=[.ref y]/\H y=some (.ins Y dx (jew sL pL))/\StAt H sL st/\st.length<=900/\∀(l:Addr) (ts:List Addr) (H':Hp),H l=none->Same H H'->H' l=some (.lst (ts.map V.ref))->All2 (BoAt H') ts (st.map (·.2))->Q (.ref l) H'
def jhX (Y:Addr):Sp:=fun vs H Q _=>∃(y pL dx sL:Addr) (ss:List Addr),vs=[.ref y]/\H y=some (.ins Y dx (jew sL pL))/\H pL=some (.lst (ss.map V.ref))/\Q (.int (ss.length:Nat)) H
def jhY (Y:Addr):Sp:=fun vs H Q _=>∃(y dx:Addr),vs=[.ref y]/\H y=some (.ins Y dx [])/\∀(sL pL:Addr) (H':Hp),H sL=none->H pL=none->sL≠pL->SX [y] H H'->H' y=some (.ins Y dx (jew sL pL))->H' sL=some (.lst [])->H' pL=some (.lst [])->Q .non H'
theorem jhZ {a:Addr} {zs:List V} {g:TG} {acc:Addr} (f:Nat->V) (hn:zs.length<1000) (hacc:H1 acc=none) (hz:SqL K H1 a zs)
  (hs:∀(i:Nat) (z:V) (v0:L2.St) (H3:Hp) (R:V->Hp->Prop),zs[i]?=some z->v0.length=n->Same H1 H3->(∀H4,Same H3 H4->R (f i) H4)->g z (v0++ρ) H3 fun σ2 H2=>(∃v:L2.St,v.length=n/\σ2=v++ρ)/\te σ2 H2 R)
  (hd:∀H',Same H1 H'->H' acc=some (.lst ((List.range zs.length).map f))->Z H')
  (mono:∀z σ H (A B:L2.St->Hp->Prop),(∀σ' H',A σ' H'->B σ' H')->g z σ H A->g z σ H B):jdo (Itl K a) n ρ g jcg te acc Z H1:=by
 refine⟨fun i m xs H=>(Same H1 H/\H acc=some (.lst xs)/\xs=(List.range i).map f)/\i<=zs.length/\m=zs.length-i,⟨zs.length,⟨Same.new hacc _,upd_same,rfl⟩,xaN _,rfl⟩,?_⟩;rintro i m xs H ⟨⟨g1,g2,rfl⟩,hi,rfl⟩;have sq:=g1.seq hz;by_cases hlt:i<zs.length
 ·have ez:zs[i]?=some zs[i]:=xae hlt;refine .inr ⟨⟨zs,zs[i],sq,ez⟩,(fun y H4=>y=f i/\Same H1 H4/\H4 acc=some (.lst ((List.range i).map f))),fun _=>False,?_,fun _ z=>z.elim,?_⟩
  ·rintro y H4 ⟨rfl,s4,a4⟩;refine⟨a4,jaP (by simp;omega),zs.length-(i+1),by omega,⟨Same.keepN s4 hacc _,upd_same,?_⟩,hlt,rfl⟩;rw[xbe,xaj];rfl
  ·rintro v0 x H' l0 ⟨rfl,hx⟩;have ex:x=zs[i]:=by
    have z:=hx zs sq;rw[ez] at z;exact (Option.some.inj z).symm
   subst ex;refine mono _ _ _ _ _ (fun σ' H'' h=>?_) (hs i _ v0 H' (fun y H4=>y=f i/\Same H1 H4/\H4 acc=some (.lst ((List.range i).map f))) ez l0 g1 fun H4 s4=>⟨rfl,g1.trans s4,s4 _ _ g2⟩);refine⟨h.1,?_⟩;simp only[jcg,if_true];exact h.2
 ·have e:i=zs.length:=by omega
  subst e;exact .inl ⟨⟨zs,sq,xac _⟩,hd _ g1 g2⟩
theorem jea {α β:Type} (f:α->β) (l:List α) (g:Nat->β) (h:∀i a,l[i]?=some a->g i=f a):(List.range l.length).map g=l.map f:=by
 apply List.ext_getElem?;intro i;rw[xak,xak];by_cases c:i<l.length
 ·rw[List.getElem?_range c,xae c];show some (g i)=some (f l[i]);rw[h i l[i] (xae c)]
 ·rw[xa5 (by simp;omega),xa5 (by omega)];rfl
theorem jfO {j:Nat}:∀(z:V) (σ:L2.St) (H:Hp) (A B:L2.St->Hp->Prop),(∀σ' H',A σ' H'->B σ' H')->ji7 K 2 (jey (jbL i) (jey (jbL j) jjG)) z σ H A->ji7 K 2 (jey (jbL i) (jey (jbL j) jjG)) z σ H B:=by
 intro z σ H A B hAB h;obtain⟨p,xs,h1,h2,h3,h4⟩:=h;refine⟨p,xs,h1,h2,h3,?_⟩;obtain⟨v,r,e1,v',r',e2,e3,h5⟩:=h4;exact⟨v,r,e1,v',r',e2,e3,hAB _ _ h5⟩
theorem jkp {v0:L2.St} (h:v0.length=2):∃a b,v0=[a,b]:=match v0,h with | [a,b],_=>⟨a,b,rfl⟩
theorem jiX (T:Tyd K mg t1 t2 cs SE Y) (F:AtM K Y "names" "Yard.names" jcm ["self"]):jaW P w K mg base CX0 1 Y "names" ["self"] (jeO Y):=by
 refine F.ok jc5 (fun vs H Q E h=>?_) (fun f cdv A outer s H vs Q E hr h=>?_)
 ·obtain⟨y,dx,sL,pL,st,rfl,_⟩:=h;rfl
 obtain⟨y,dx,sL,pL,st,rfl,hy,⟨rs,hs,ha⟩,hn,q⟩:=h;have S:=jc5;refine⟨_,(jae (jap (jfj rfl (N':=["name","board"]) (ix:=[]) (xs0:=["name","board"]) (by walk_at "cs") (jcP (jcf (pv 0) rfl)) (fun _ _ _ _=>jfH (K:=K) (n:=2) rfl rfl (jbd (jax (i:=0) (show (["name","board"]:List Str).Nodup from by decide +kernel) rfl (Or.inl rfl)) (jbd (jax (i:=1) (show (["name","board"]:List Str).Nodup from by decide +kernel) rfl (Or.inl rfl)) jdh))) (fun _ _ _ _=>jbb) (fun _ _ _ _=>(pv 0))))),?_⟩;walk_at "rf";refine⟨_,rfl,y,Y,dx,_,_,rfl,hy,T.cl,T.nS,jd9 _ _,sL,rfl,⟨_,SqL.of hs⟩,fun acc hacc=>?_⟩;have ln:=ha.len;refine jhZ (fun i=>V.str ((nmL st).getD i "")) (by rw[xaa];omega) hacc (SqL.of hs) (fun i z v0 H3 R hz l0 s3 hR=>?_) (fun H3 s3 e3=>?_) jfO
 ·rw[xak] at hz;obtain⟨r,hr1,rfl⟩:=xaW.mp hz;obtain⟨it,hi,⟨t,e1,e2⟩,_⟩:=ha.getA hr1;obtain⟨v1,v2,rfl⟩:=jkp l0;have en:(nmL st).getD i ""=it.1:=by
   unfold nmL;rw[xaG,xak,hi];rfl
  refine⟨_,_,rfl,SqT.of (s3 _ _ e1),rfl,_,_,rfl,_,_,rfl,rfl,⟨[_,_],rfl,rfl⟩,_,rfl,?_⟩;have z:=hR H3 (Same.refl _);rw[en] at z;exact z
 ·refine q acc H3 hacc s3 ?_;rw[e3,xaa,ln];have z:=jea (fun it:Str × List Pt=>V.str it.1) st (fun i=>V.str ((nmL st).getD i "")) fun i a h=>by
   unfold nmL;rw[xaG,xak,h];rfl
  rw[z];unfold stV nmL;rw[xbl];rfl
theorem jh0 (T:Tyd K mg t1 t2 cs SE Y) (F:AtM K Y "boards" "Yard.boards" jb1 ["self"]):jaW P w K mg base CX0 1 Y "boards" ["self"] (jgp Y):=by
  refine F.ok jcJ (fun vs H Q E h=>?_) (fun f cdv A outer s H vs Q E hr h=>?_)
  . obtain⟨y,dx,sL,pL,st,rfl,_⟩:=h
    rfl
  obtain⟨y,dx,sL,pL,st,rfl,hy,⟨rs,hs,ha⟩,hn,q⟩:=h;have S:=jcJ;refine⟨_,(jae (jap (jfj rfl (N':=["name","board"]) (ix:=[]) (xs0:=["name","board"]) (by walk_at "cs") (jcP (jcf (pv 0) rfl)) (fun _ _ _ _=>jfH (K:=K) (n:=2) rfl rfl (jbd (jax (i:=0) (show (["name","board"]:List Str).Nodup from by decide +kernel) rfl (Or.inl rfl)) (jbd (jax (i:=1) (show (["name","board"]:List Str).Nodup from by decide +kernel) rfl (Or.inl rfl)) jdh))) (fun _ _ _ _=>jbb) (fun _ _ _ _=>(pv 1))))),?_⟩;walk_at "rf";refine⟨_,rfl,y,Y,dx,_,_,rfl,hy,T.cl,T.nS,jd9 _ _,sL,rfl,⟨_,SqL.of hs⟩,fun acc hacc=>?_⟩;have ln:=ha.len;obtain⟨ts,ht⟩:∃ts:List Addr,ts.length=rs.length/\∀(i:Nat) (r:Addr) (it:Str × List Pt),rs[i]?=some r->st[i]?=some it->∃t,ts[i]?=some t/\H r=some (.tup [.str it.1,.ref t])/\BoAt H t it.2:=by
    clear hs q hn ln;induction ha with
    | nil=>exact⟨[],rfl,fun i r it h=>nomatch h⟩
    | cons h _ ih =>
      obtain⟨ts,hl,ht⟩:=ih;obtain⟨⟨t,e1,e2⟩,_⟩:=h;refine⟨t::ts,by rw[xax,xax,hl],fun i r it h1 h2=>?_⟩;cases i with
      | zero=>cases h1;cases h2;exact⟨t,rfl,e1,e2⟩
      | succ i=>exact ht i r it h1 h2
  refine jhZ (fun i=>V.ref (ts.getD i 0)) (by rw[xaa];omega) hacc (SqL.of hs) (fun i z v0 H3 R hz l0 s3 hR=>?_) (fun H3 s3 e3=>?_) jfO
  . rw[xak] at hz
    obtain⟨r,hr1,rfl⟩:=xaW.mp hz;obtain⟨it,hi,_⟩:=ha.getA hr1;obtain⟨t,h1,h2,h3⟩:=ht.2 i r it hr1 hi;obtain⟨v1,v2,rfl⟩:=jkp l0;have en:ts.getD i 0=t:=by
      rw[xaG,h1];rfl
    refine⟨_,_,rfl,SqT.of (s3 _ _ h2),rfl,_,_,rfl,_,_,rfl,rfl,⟨[_,_],rfl,rfl⟩,_,rfl,?_⟩;have z:=hR H3 (Same.refl _);rw[en] at z;exact z
  . refine q acc ts H3 hacc s3 ?_ ?_
    . rw[e3,xaa,<- ht.1]
      rw[jea V.ref ts (fun i=>V.ref (ts.getD i 0)) fun i a h=>by rw[xaG,h];rfl]
    . have:∀(i:Nat) (t:Addr),ts[i]?=some t->∃b,(st.map (·.2))[i]?=some b/\BoAt H3 t b:=fun i t h=>by
        have il:i<rs.length:=by have:=(xai.mp h).1;omega
        obtain⟨it,hi,_⟩:=ha.getA (xae il);obtain⟨t',h1,_,h3⟩:=ht.2 i _ it (xae il) hi;rw[h] at h1;cases h1;exact⟨it.2,by rw[xak,hi];rfl,h3.keep s3⟩
      exact jhW (by rw[xaa];omega) this
theorem jiY (T:Tyd K mg t1 t2 cs SE Y) (F:AtM K Y "deeds" "Yard.deeds" jcn ["self"]):jaW P w K mg base CX0 1 Y "deeds" ["self"] (jhX Y):=by
 refine F.ok jc6 (fun vs H Q E h=>?_) (fun f cdv A outer s H vs Q E hr h=>?_)
 ·obtain⟨y,pL,dx,sL,ss,rfl,_⟩:=h;rfl
 obtain⟨y,pL,dx,sL,ss,rfl,hy,hp,q⟩:=h;have S:=jc6;refine⟨_,(jae (jap (jau jaz rfl T.m_len PySem.boot_len (jaa (jcf (pv 0) rfl) jac jhy)))),?_⟩;walk_at "rf";refine⟨_,rfl,y,Y,dx,_,_,rfl,hy,T.cl,T.nP,jgn _ _,pL,rfl,_,.inl (SqL.of hp),?_⟩;rw[xaa];exact q
theorem jiZ (T:Tyd K mg t1 t2 cs SE Y) (F:AtM K Y "__init__" "Yard.__init__" jbC ["self"]):jaW P w K mg base CX0 1 Y "__init__" ["self"] (jhY Y):=by
 refine F.ok jcb (fun vs H Q E h=>?_) (fun f cdv A outer s H vs Q E hr h=>?_)
 ·obtain⟨y,dx,rfl,_⟩:=h;rfl
 obtain⟨y,dx,rfl,hy,q⟩:=h;have S:=jcb;refine⟨_,(jad (jf3 (pv 0) (jaN jac) rfl)
  (jae (jf3 (pv 0) (jaN jac) rfl))),?_⟩
 walk_at "rf";refine⟨by decide,fun a ha=>⟨_,rfl,y,Y,dx,[],rfl,?_,T.cl,T.nS,by decide,?_⟩⟩
 ·rw[jat (jaD hy ha)];exact hy
 have nya:=jaD hy ha;refine⟨by decide,fun b hb=>⟨_,rfl,y,Y,dx,jef "standing" (.ref a) [],rfl,?_,T.cl,T.nP,(by show 1<1000;decide),?_⟩⟩
 ·have nyb:y≠b:=fun z=>by rw[<- z,upd_same] at hb;cases hb
  rw[jat nyb,upd_same]
 have nyb:y≠b:=fun z=>by rw[<- z,upd_same] at hb;cases hb
 rw[jat (Ne.symm nyb)] at hb;have nab:a≠b:=fun z=>by rw[<- z,upd_same] at hb;cases hb
 rw[jat (Ne.symm nab)] at hb;refine q a b _ ha hb nab (fun c o hc e=>?_) ?_ ?_ ?_
 ·have c1:c≠y:=fun z=>hc (by rw[z];exact xao.mpr rfl);rw[jat c1,jat (jaD e hb),jat c1,jat (jaD e ha)];exact e
 ·rw[upd_same,jko]
 ·rw[jat (Ne.symm nya),jat nab,jat (Ne.symm nya),upd_same]
 ·rw[jat (Ne.symm nyb),upd_same]
def spDo (Y:Addr):Sp:=fun vs H Q _=>∃(M:List Addr) (y pL sN:Addr) (st sn:List (Str × List Pt)) (past:List (List (Str × List Pt))),vs=[.ref y,.ref sN]/\YardAt Y M H y pL st past/\StAt (rm M H) sN sn/\past.length<=900/\∀H',SX [y,pL] H H'->YardAt Y M H' y pL sn (past++[st])->Q .non H'
theorem ok_do (T:Tyd K mg t1 t2 cs SE Y) (F:AtM K Y "do_deed" "Yard.do_deed" jbP ["self","standing"]):jaW P w K mg base CX0 1 Y "do_deed" ["self","standing"] (spDo Y):=by
 refine F.ok jcx (fun vs H Q E h=>?_) (fun f cdv A outer s H vs Q E hr h=>?_)
 ·obtain⟨M,y,pL,sN,st,sn,past,rfl,_⟩:=h;rfl
 obtain⟨M,y,pL,sN,st,sn,past,rfl,hY,hn,hl,q⟩:=h;have S:=jcx;refine⟨_,(jad (jbT (jeF PySem.F.plainAttrs_list PySem.F.slot_list_append PySem.F.type_list_append jbx (jcf (pv 0) rfl) (jaa (jcf (pv 0) rfl) jac jhy)))
  (jae (jf3 (pv 0) (pv 1) rfl))),?_⟩
 have nyp:=hY.ne;obtain⟨dx,sL,ss,h1,h2,h3,h4⟩:=hY.ob;have l4:=h4.len;walk_at "rf";refine⟨_,rfl,y,Y,dx,_,_,rfl,h1,T.cl,T.nP,jgn _ _,.inl ⟨_,SqL.of h2⟩,_,rfl,y,Y,dx,_,_,rfl,h1,T.cl,T.nS,jd9 _ _,pL,_,_,rfl,rfl,h2,?_,?_⟩
 ·rw[xaa];exact jaP (by omega)
 refine⟨_,rfl,_,rfl,y,Y,dx,jew sL pL,rfl,?_,T.cl,T.nS,(by show 2<1000;decide),?_⟩
 ·rw[jat nyp];exact h1
 have sx:SX [y,pL] H (upd (upd H pL (.lst (ss.map V.ref++[.ref sL]))) y (.ins Y dx (jef "standing" (.ref sN) (jew sL pL)))):=fun b o hb e=>by
  simp only[xaf,xam,or_false,not_or] at hb;rw[jat hb.1,jat hb.2];exact e
 have hM:∀a∈[y,pL],a∈M:=fun a ha=>by
  simp only[xaf,xam,or_false] at ha;rcases ha with rfl | rfl
  ·exact hY.yM
  ·exact hY.pM
 refine q _ sx ⟨hY.yM,hY.pM,fun m hm=>?_,dx,sN,ss++[sL],?_,?_,hn.keep (sx.rm hM),(h4.mono fun _ _ z=>z.keep (sx.rm hM)).app (.cons (h3.keep (sx.rm hM)) .nil)⟩
 ·refine Mut.up (Mut.up (hY.mu m hm) ?_) ?_<;>(intro _ z;cases z)
 ·rw[upd_same,jgo]
 ·rw[jat (Ne.symm nyp),upd_same,xaj];rfl
def inN (x:Str) (st:List (Str × List Pt)):Bool:=(nmL st).any fun z=>z==x
def plN (x:Str) (st:List (Str × List Pt)):Nat:=(nmL st).findIdx fun z=>z==x
theorem jeP (st:List (Str × List Pt)):(stV st).all jdH=true:=by
 unfold stV;rw[List.all_map];exact xaR.mpr fun _ _=>rfl
theorem jh1 (x:Str) (st:List (Str × List Pt)):inV (.str x) (stV st)=inN x st:=by
 unfold inV stV inN;rw[List.any_map];rfl
theorem ji0 (x:Str) (st:List (Str × List Pt)):(stV st).findIdx (fun z=>eqV z (.str x))=plN x st:=by
  unfold stV plN;induction nmL st with
  | nil=>rfl
  | cons a l ih =>
    rw[xaY,xbj,xbj,ih];rfl
theorem jh2 (st:List (Str × List Pt)):(stV st).length=st.length:=by
 unfold stV nmL;rw[xaa,xaa]
theorem jly {x:Str} {st:List (Str × List Pt)} (h:inN x st=true):plN x st<st.length:=by
 unfold inN at h;unfold plN;obtain⟨z,hz,e⟩:=List.any_eq_true.mp h;have:=xa1 (p:=fun z=>z==x) ⟨z,hz,e⟩;unfold nmL at this;rw[xaa] at this;exact this
def jh3 (Y C0:Addr):Sp:=fun vs H Q E=>∃(y dx sL pL:Addr) (st:List (Str × List Pt)) (x:Str),vs=[.ref y,.str x]/\H y=some (.ins Y dx (jew sL pL))/\StAt H sL st/\st.length<=900/\(inN x st=true->∀H',Same H H'->Q (.int (plN x st:Nat)) H')/\(inN x st=false->∀H',Same H H'->E (.ref C0) none H')
theorem ji1 (T:Tyd K mg t1 t2 cs SE Y) (F:AtM K Y "place_of" "Yard.place_of" jbD ["self","name"]) (dg:jaW P w K mg base CX0 1 Y "names" ["self"] (jeO Y)):jaW P w K mg base (XOk P w) 2 Y "place_of" ["self","name"] (jh3 Y (cs 0)):=by
  refine F.okX jcc (fun vs H Q E h=>?_) (fun f cdv A outer s H vs Q E hr h=>?_)
  . obtain⟨y,dx,sL,pL,st,x,rfl,_⟩:=h
    rfl
  obtain⟨y,dx,sL,pL,st,x,rfl,hy,hs,hn,q1,q2⟩:=h;have S:=jcc;refine⟨_,(jad (jal (i:=2) S.nd rfl (Or.inl rfl) (jcj dg (pv 0) T.cl hr.m jaA))
    (jad (jaR (jam je5 (pv 1) (pv 2) rfl)
    (jae (jbt rfl rfl T.m_NoName T.x_NoName (jaa ja7 jac jaj) jbW))
    jaq)
    (jae (jap (jeF PySem.F.plainAttrs_list PySem.F.slot_list_index PySem.F.type_list_index jhF (pv 2) (jaa (pv 1) jac jaf)))))),?_⟩
  walk_at "rf";refine⟨_,rfl,y,dx,_,rfl,hy,jbG (by decide +kernel) (by decide +kernel),y,dx,sL,pL,st,rfl,hy,hs,hn,fun l H1 hl s1 e1=>?_⟩;walk_at "rf";refine⟨l,_,rfl,.inl (SqL.of e1),rfl,jeP st,?_⟩;walk_at "rf";rw[jh1];cases ci:inN x st with
  | false =>
    rw[if_pos rfl];exact⟨by decide,q2 ci _ s1⟩
  | true =>
    rw[if_neg (by decide)];refine⟨.inl ⟨_,SqL.of e1⟩,l,_,_,rfl,rfl,SqL.of e1,rfl,jeP st,by rw[jh1];exact ci,by rw[jh2];omega,?_⟩;rw[ji0];exact q1 ci _ s1
def jjq (Y C0:Addr):Sp:=fun vs H Q E=>∃(M:List Addr) (y pL:Addr) (st:List (Str × List Pt)) (past:List (List (Str × List Pt))) (x:Str),vs=[.ref y,.str x]/\YardAt Y M H y pL st past/\st.length<=900/\past.length<=900 /\
 (inN x st=true->∀H',SX [y,pL] H H'->YardAt Y M H' y pL (st.eraseIdx (plN x st)) (past++[st])->Q .non H')/\(inN x st=false->∀H',Same H H'->E (.ref C0) none H')
theorem jkq (T:Tyd K mg t1 t2 cs SE Y) (F:AtM K Y "drop" "Yard.drop" jcV ["self","name"]) (dF:jaW P w K mg base (XOk P w) 2 Y "place_of" ["self","name"] (jh3 Y (cs 0))) (di:jaW P w K mg base CX0 1 Y "do_deed" ["self","standing"] (spDo Y)):jaW P w K mg base (XOk P w) 3 Y "drop" ["self","name"] (jjq Y (cs 0)):=by
 refine F.okX jdA (fun vs H Q E h=>?_) (fun f cdv A outer s H vs Q E hr h=>?_)
 ·obtain⟨M,y,pL,st,past,x,rfl,_⟩:=h;rfl
 obtain⟨M,y,pL,st,past,x,rfl,hY,hn,hl,q1,q2⟩:=h;have S:=jdA;refine⟨_,(jad (jal (i:=2) S.nd rfl (Or.inl rfl) (jeK dF (pv 0) T.cl hr.m jk4 (jaa (pv 1) jac jaf)))
  (jae (jbT (jeK di (pv 0) T.cl hr.m jaA (jaa (jah jb9 (jaO ja1 (jcf (pv 0) rfl) jaJ (jaK (pv 2))) (jaO ja1 (jcf (pv 0) rfl) (jaK (jah ja9 (pv 2) jab)) jaJ)) jac jaM))))),?_⟩
 obtain⟨dx,sL,ss,h1,h2,h3,h4⟩:=hY.ob;walk_at "rf";refine⟨_,rfl,y,dx,_,rfl,h1,jbG (by decide +kernel) (by decide +kernel),_,rfl,y,dx,sL,pL,st,x,rfl,h1,h3.keep (jbr _ _),hn,fun ci H1 s1=>?_,fun ci H1 s1=>q2 ci _ s1⟩;obtain⟨rs,e1,e2⟩:=h3.keep (jaQ s1);have e1':=(jbi e1).1;have ln:=e2.len;have lt:=jly ci;have hY1:=hY.keep s1;walk_at "rf";refine⟨_,rfl,y,dx,_,rfl,s1 _ _ h1,jbG (by decide +kernel) (by decide +kernel),_,rfl,y,Y,dx,_,_,rfl,s1 _ _ h1,T.cl,T.nS,jd9 _ _,?_⟩;refine⟨_,rfl,_,rfl,sL,_,rfl,SqL.of e1',fun a1 n1=>?_⟩;rw[jbm];refine ja4 n1 fun J1 j1 i1=>?_;refine⟨_,rfl,y,Y,dx,_,_,rfl,j1 _ _ (s1 _ _ h1),T.cl,T.nS,jd9 _ _,_,rfl,_,_,rfl,rfl,_,rfl,sL,_,rfl,SqL.of (j1 _ _ e1'),fun a2 n2=>?_⟩;rw[show ((plN x st:Nat):Int)+1=((plN x st+1:Nat):Int) by omega,jbv];refine ja4 n2 fun J2 j2 i2=>?_;refine⟨a1,a2,_,_,rfl,rfl,j2 _ _ i1,i2,?_,fun a3 n3=>ja4 n3 fun J3 j3 i3=>?_⟩
 ·rw[xag,xaq,xaa];exact xaF (jaP (by omega))
 have s13:=s1.trans (j1.trans (j2.trans j3));have hY3:=hY.keep s13;have r3:rm M J3 a3=some (.lst ((rs.take (plN x st)++rs.drop (plN x st+1)).map V.ref)):=by
  refine jbK ?_ fun z=>?_
  ·rw[i3,xaj,xaP,xaT]
  ·refine hY.al a3 z (s1.noneN (j1.noneN (j2.noneN n3)))
 refine⟨M,y,pL,a3,st,st.take (plN x st)++st.drop (plN x st+1),past,rfl,hY3,⟨_,r3,((e2.take _).app (e2.drop _)).mono fun _ _ h=>h.keep (jaQ (j1.trans (j2.trans j3)))⟩,hl,fun H4 s4 h4=>?_⟩;refine q1 ci H4 ((Same.x s13 _).trans s4) ?_;rw[List.eraseIdx_eq_take_drop_succ];exact h4
def jjr (Y C3:Addr):Sp:=fun vs H Q E=>∃(M:List Addr) (y pL:Addr) (st:List (Str × List Pt)) (past:List (List (Str × List Pt))),vs=[.ref y]/\YardAt Y M H y pL st past/\past.length<=900 /\
 (∀p0 s0,past=p0++[s0]->∀H',SX [y,pL] H H'->YardAt Y M H' y pL s0 p0->Q .non H')/\(past=[]->∀H',Same H H'->E (.ref C3) none H')
theorem jkr (T:Tyd K mg t1 t2 cs SE Y) (F:AtM K Y "back" "Yard.back" jcW ["self"]):jaW P w K mg base (XOk P w) 1 Y "back" ["self"] (jjr Y (cs 3)):=by
 refine F.okX jdB (fun vs H Q E h=>?_) (fun f cdv A outer s H vs Q E hr h=>?_)
 ·obtain⟨M,y,pL,st,past,rfl,_⟩:=h;rfl
 obtain⟨M,y,pL,st,past,rfl,hY,hl,q1,q2⟩:=h;have S:=jdB;refine⟨_,(jad (jaR (jdw (jio (jcf (pv 0) rfl) (fun _=>rfl)))
  (jae (jbt rfl rfl T.m_NoDeed T.x_NoDeed (jaa ja7 jac jaj) jbW))
  jaq)
  (jae (jf3 (pv 0) (jhf PySem.F.plainAttrs_list PySem.F.slot_list_pop PySem.F.type_list_pop jja (jcf (pv 0) rfl)) rfl))),?_⟩
 obtain⟨dx,sL,ss,h1,h2,h3,h4⟩:=hY.ob;have nyp:=hY.ne;walk_at "rf";refine⟨_,rfl,y,Y,dx,_,_,rfl,h1,T.cl,T.nP,jgn _ _,?_⟩;have l4:=h4.len;refine⟨!(ss.map V.ref).isEmpty,.inl ⟨_,SqL.of h2,rfl⟩,?_⟩;by_cases ce:past=[]
 ·have es:ss=[]:=List.eq_nil_of_length_eq_zero (by rw[l4,ce];rfl);subst es;rw[if_pos (by rfl)];exact⟨by decide,q2 ce _ (Same.refl _)⟩
 obtain⟨p0,s0,rfl⟩:∃p0 s0,past=p0++[s0]:=⟨past.dropLast,past.getLast ce,(xaI ce).symm⟩;have ns:ss≠[]:=fun z=>by rw[z,xab] at l4;cases l4
 obtain⟨ss0,a,rfl⟩:∃q0 t0,ss=q0++[t0]:=⟨ss.dropLast,ss.getLast ns,(xaI ns).symm⟩;have e0:(!((ss0++[a]).map V.ref).isEmpty)=true:=by simp
 rw[e0,if_neg (by decide)];have l0:ss0.length=p0.length:=by simpa using l4
 have h40:All2 (StAt (rm M H)) ss0 p0:=by
  have:=h4.take ss0.length;rw[List.take_left' rfl,List.take_left' l0.symm] at this;exact this
 have h4a:StAt (rm M H) a s0:=by
  have:=h4.drop ss0.length;rw[List.drop_left' rfl,List.drop_left' l0.symm] at this;cases this with
  | cons h _=>exact h
 refine⟨_,rfl,y,Y,dx,_,_,rfl,h1,T.cl,T.nP,jgn _ _,.inl ⟨rfl,_,SqL.of h2⟩,pL,_,.ref a,rfl,rfl,h2,?_,_,rfl,y,Y,dx,jew sL pL,rfl,?_,T.cl,T.nS,(by show 2<1000;decide),?_⟩
 ·rw[xaj,xab];simp
 ·rw[jat nyp];exact h1
 have sx:SX [y,pL] H (upd (upd H pL (.lst ((ss0++[a]).map V.ref).dropLast)) y (.ins Y dx (jef "standing" (.ref a) (jew sL pL)))):=fun b o hb e=>by
  simp only[xaf,xam,or_false,not_or] at hb;rw[jat hb.1,jat hb.2];exact e
 have hM:∀a∈[y,pL],a∈M:=fun a ha=>by
  simp only[xaf,xam,or_false] at ha;rcases ha with rfl | rfl
  ·exact hY.yM
  ·exact hY.pM
 refine q1 p0 s0 rfl _ sx ⟨hY.yM,hY.pM,fun m hm=>?_,dx,a,ss0,?_,?_,h4a.keep (sx.rm hM),h40.mono fun _ _ z=>z.keep (sx.rm hM)⟩
 ·refine Mut.up (Mut.up (hY.mu m hm) ?_) ?_<;>(intro _ z;cases z)
 ·rw[upd_same,jgo]
 ·rw[jat (Ne.symm nyp),upd_same,xaj];show some (HO.lst (ss0.map V.ref++[V.ref a]).dropLast)=_;rw[List.dropLast_concat]
def jbs (st:List (Str × List Pt)) (x:Str) (g:Bool):Option Nat:=if nm x=false then some 0 else if inN x st=true then some 0 else if g=false then some 1 else if 6<=st.length then some 2 else none
def jlz (Y:Addr) (cs:Nat->Addr):Sp:=fun vs H Q E=>∃(M:List Addr) (y pL l:Addr) (rs:List Addr) (ps:List Pt) (st:List (Str × List Pt)) (past:List (List (Str × List Pt))) (x:Str) (g:Bool),vs=[.ref y,.str x,.ref l]/\(g=true↔GoodB ps)/\YardAt Y M H y pL st past/\st.length<=6/\past.length<=900/\Lo x/\x.cps.size<=900/\Cor (rm M H) l rs ps /\
 (jbs st x g=none->∀H',SX [y,pL] H H'->YardAt Y M H' y pL (st++[(x,frm ps ps)]) (past++[st])->Q .non H')/\(∀i,jbs st x g=some i->∀H',Same H H'->E (.ref (cs i)) none H')
theorem jlA (T:Tyd K mg t1 t2 cs SE Y) (F:AtM K Y "put" "Yard.put" jdr ["self","name","corners"]) (Dj:jaw P w K mg base CX0 1 "is_name" ["text"] [] jjp) (dg:jaW P w K mg base CX0 1 Y "names" ["self"] (jeO Y)) (dP:jaw P w K mg base (XOk P w) 6 "made_board" ["corners"] [] (jgm (cs 1))) (di:jaW P w K mg base CX0 1 Y "do_deed" ["self","standing"] (spDo Y)):jaW P w K mg base (XOk P w) 7 Y "put" ["self","name","corners"] (jlz Y cs):=by
  refine F.okX jd7 (fun vs H Q E h=>?_) (fun f cdv A outer s H vs Q E hr h=>?_)
  . obtain⟨M,y,pL,l,rs,ps,st,past,x,g,rfl,_⟩:=h
    rfl
  obtain⟨M,y,pL,l,rs,ps,st,past,x,g,rfl,hg,hY,hn,hl,lo,l9,hc,q1,q2⟩:=h;have S:=jd7;refine⟨_,(jad (jaR (jdw (jcF (jai Dj hr.m rfl jaA (jaa (pv 1) jac jaf))))
    (jae (jbt rfl rfl T.m_NoName T.x_NoName (jaa ja7 jac jaj) jbW))
    jaq)
    (jad (jaR (jam jhe (pv 1) (jcj dg (pv 0) T.cl hr.m jaA) rfl)
    (jae (jbt rfl rfl T.m_NoName T.x_NoName (jaa ja7 jac jaj) jbW))
    jaq)
    (jad (jal (i:=3) S.nd rfl (Or.inl rfl) (jai dP hr.m rfl jk4 (jaa (pv 2) jac jaf)))
    (jad (jaR (jam jkV (jau jaz rfl T.m_len PySem.boot_len (jaa (jcf (pv 0) rfl) jac jhy)) (jce rfl T.m_MOST_BOARDS T.r_MOST_BOARDS) (jar _))
    (jae (jbt rfl rfl T.m_TooMany T.x_TooMany (jaa ja7 jac jaj) jbW))
    jaq)
    (jae (jbT (jeK di (pv 0) T.cl hr.m jaA (jaa (jah jb9 (jcf (pv 0) rfl) (jaN (jaa (ja5 (jaa (pv 1) (jaa (pv 3) jac jaf) jaf)) jac jaY))) jac jaM)))))))),?_⟩
  obtain⟨dx,sL,ss,h1,h2,h3,h4⟩:=hY.ob;walk_at "rf";refine⟨x,rfl,lo,l9,fun H1 s1=>⟨_,rfl,?_⟩⟩;cases c1:nm x with
  | false =>
    rw[if_pos rfl];exact⟨by decide,q2 0 (by unfold jbs;rw[if_pos c1]) _ s1⟩
  | true =>
  have n1:¬nm x=false:=by rw[c1];decide
  rw[if_neg (by decide)];refine⟨_,rfl,y,dx,_,rfl,s1 _ _ h1,jbG (by decide +kernel) (by decide +kernel),y,dx,sL,pL,st,rfl,s1 _ _ h1,h3.keep ((jbr _ _).trans s1),by omega,fun nl H2 hnl s2 e2=>?_⟩;refine⟨nl,_,rfl,.inl (SqL.of e2),rfl,jeP st,_,rfl,?_⟩;rw[show (if false=true then !inV (V.str x) (stV st) else inV (V.str x) (stV st))=inN x st from jh1 x st];have s12:=s1.trans s2;cases c2:inN x st with
  | true =>
    rw[if_pos rfl];exact⟨by decide,q2 0 (by unfold jbs;rw[if_neg n1,if_pos c2]) _ s12⟩
  | false =>
  have n2:¬inN x st=true:=by rw[c2];decide
  rw[if_neg (by decide)];refine⟨l,rs,ps,rfl,hc.keep ((jbr _ _).trans s12),fun G t H3 s3 e3=>?_,fun G H3 s3=>q2 1 ?_ _ (s12.trans s3)⟩
  . have s13:=s12.trans s3
    obtain⟨srs,i1,i2⟩:=h3.keep (jaQ s13);have ln:=i2.len;have gt:g=true:=hg.mpr G;have n3:¬g=false:=by rw[gt];decide
    refine⟨_,rfl,y,Y,dx,_,_,rfl,s13 _ _ h1,T.cl,T.nS,jd9 _ _,sL,rfl,_,.inl (SqL.of (jbi i1).1),?_⟩;rw[xaa,ln];by_cases c4:6<=st.length
    . rw[if_pos (by omega)]
      exact⟨by decide,q2 2 (by unfold jbs;rw[if_neg n1,if_neg n2,if_neg n3,if_pos c4]) _ s13⟩
    rw[if_neg (by omega)];refine⟨_,rfl,y,dx,_,rfl,s13 _ _ h1,jbG (by decide +kernel) (by decide +kernel),_,rfl,y,Y,dx,_,_,rfl,s13 _ _ h1,T.cl,T.nS,jd9 _ _,?_⟩;refine⟨_,rfl,_,rfl,by show 2<=sizeLine;decide,fun a1 n1'=>ja4 n1' fun J1 j1 k1=>⟨by show 1<=sizeLine;decide,fun a2 n2'=>ja4 n2' fun J2 j2 k2=>?_⟩⟩;have s02:=s13.trans (j1.trans j2);refine⟨sL,a2,_,_,rfl,rfl,j2 _ _ (j1 _ _ (jbi i1).1),k2,?_,fun a3 n3'=>ja4 n3' fun J3 j3 k3=>?_⟩
    . rw[xaa,ln]
      exact xaF (jaP (by show st.length+1<1000;omega))
    have s03:=s02.trans j3;have r1:rm M J3 a1=some (.tup [.str x,.ref t]):=jbK (j3 _ _ (j2 _ _ k1)) fun z=>hY.al a1 z (s13.noneN n1');have r3:rm M J3 a3=some (.lst ((srs++[a1]).map V.ref)):=by
      refine jbK ?_ fun z=>hY.al a3 z (s02.noneN n3');rw[k3,xaj];rfl
    have ft:rm M J3 t=some (.tup ((frm ps rs).map V.ref)):=jbK (j3 _ _ (j2 _ _ (j1 _ _ e3))) fun z=>?_
    . have b0:BoAt (rm M J3) t (frm ps ps):=⟨_,ft,(hc.2.keep (jaQ s03).t).frm⟩
      refine⟨M,y,pL,a3,st,st++[(x,frm ps ps)],past,rfl,hY.keep s03,⟨_,r3,(i2.mono fun _ _ h=>h.keep (jaQ (j1.trans (j2.trans j3)))).app (.cons ⟨⟨t,r1,b0⟩,lo⟩ .nil)⟩,hl,fun H4 s4 h4=>?_⟩;exact q1 (by unfold jbs;rw[if_neg n1,if_neg n2,if_neg n3,if_neg c4]) H4 ((Same.x s03 _).trans s4) h4
    . obtain⟨o,e,n⟩:=hY.mu t z
      rw[s13 _ _ e] at e3;exact n _ (Option.some.inj e3)
  . unfold jbs
    have gf:g=false:=by
      cases g with
      | false=>rfl
      | true=>exact absurd (hg.mp rfl) G
    rw[if_neg n1,if_neg n2,if_pos gf]
def Nam (x:Str):Prop:=AZ x/\1<=x.cps.size/\x.cps.size<=8
theorem Nam.nm {x:Str} (h:Nam x):nm x=true:=by
 rw[h.1.nm];exact decide_eq_true h.2
theorem jeQ {x:Str} (h0:0<=j):(∀c∈(Txt.slice x none (some j)).cps.toList,c∈x.cps.toList)/\(Txt.slice x none (some j)).cps.size<=x.cps.size:=by
 by_cases h1:j<=x.cps.size
 ·exact jhU h0 h1
 ·have e:Txt.slice x none (some j)=Txt.slice x none (some (x.cps.size:Int)):=by
   show StrLaws.sliceText x none (some j)=StrLaws.sliceText x none (some (x.cps.size:Int));have e2:Builtin.Str.strSliceIndices none (some j) 1 x.length=Builtin.Str.strSliceIndices none (some (x.cps.size:Int)) 1 x.length:=by
    have a:¬(j<0):=by omega
    have b:min j (x.length:Int)=(x.length:Int):=by unfold Str.length;omega
    have c:min (x.cps.size:Int) (x.length:Int)=(x.length:Int):=by unfold Str.length;omega
    have d:¬((x.cps.size:Int)<0):=by omega
    simp [Builtin.Str.strSliceIndices,a,b,c,d]
   unfold StrLaws.sliceText;rw[e2]
  rw[e];exact jhU (by omega) (by omega)
theorem jh4 {x:Str} (h0:0<=j) (h1:j<=x.cps.size):(Txt.slice x none (some j)).cps.size=j.toNat:=by
 have e:Txt.slice x none (some j)=_:=StrLaws.sliceText_to (x:=x) (j:=j) ⟨h0,by rw[Array.length_toList];exact h1⟩;rw[e];rw[xad,xag,xaq,Array.length_toList];omega
theorem jks {x:Str} (h0:0<=j) (h1:j<=x.cps.size):(Txt.slice x (some j) none).cps.size=x.cps.size-j.toNat:=by
 have e:Txt.slice x (some j) none=_:=StrLaws.sliceText_from (x:=x) (i:=j) ⟨h0,by rw[Array.length_toList];exact h1⟩;rw[e];rw[xad,xag,xaq,Array.length_toList];omega
theorem jeR {x y:Str} {c:Nat} (h:c∈(x++y).cps.toList):c∈x.cps.toList\/c∈y.cps.toList:=by
 have h':c∈(x.cps++y.cps).toList:=h;rw[Array.toList_append,xav] at h';exact h'
theorem jh5 {x y:Str} {c:Nat} (h:c∈x.cps.toList\/c∈y.cps.toList):c∈(x++y).cps.toList:=by
 show c∈(x.cps++y.cps).toList;rw[Array.toList_append,xav];exact h
theorem jeb (x y:Str):(x++y).cps.size=x.cps.size+y.cps.size:=by
 show (x.cps++y.cps).size=_;rw[Array.size_append]
theorem AZ.app {x y:Str} (h:AZ x) (h':AZ y):AZ (x++y):=fun c hc=>(jeR hc).elim (h c) (h' c)
theorem jjs (h0:0<=k) (h1:k<26):∃c,abc.cps[k.toNat]?=some c/\AZ ⟨#[c]⟩/\k<((abc.cps.size:Nat):Int):=by
 have sz:abc.cps.size=26:=by decide +kernel
 have hlt:k.toNat<abc.cps.size:=by omega
 refine⟨_,Array.getElem?_eq_getElem hlt,fun d hd=>?_,by omega⟩;have:d=abc.cps[k.toNat]:=by simpa using hd
 rw[this];exact jlt (Array.getElem?_eq_getElem hlt)
def jlB:Sp:=fun vs H Q _=>∃n:Int,vs=[.int n]/\0<=n/\∀(l:Addr) (xs:List Str) (H':Hp),H l=none->Same H H'->H' l=some (.lst (xs.map V.str))->xs.length=8->(∀x∈xs,Nam x)->Q (.ref l) H'
def nmM (H:Hp):L2.St->Hp->Prop:=fun σ H'=>∃(n many:Int) (x:Str) (o4:Option V),σ=[some (.int n),some (.str abc),some (.int many),some (.str x),o4,none,none,none]/\H'=H/\0<=n/\0<=many/\many<8/\AZ x/\(x.cps.size:Int)=many
theorem jlC (T:Tx K mg t1 t2) (F:At K mg "_law_names" jco ["number"] []):jaw P w K mg base CX0 1 "_law_names" ["number"] [] jlB:=by
 refine F.ok jc7 (fun vs H Q E h=>?_) (fun f cdv A outer s H vs Q E hr h=>?_)
 ·obtain⟨n,rfl,_⟩:=h;rfl
 obtain⟨n,rfl,n0,q⟩:=h;have S:=jc7;refine⟨_,(jad (jal (i:=1) S.nd rfl (Or.inl rfl) ja7)
  (jad (jal (i:=2) S.nd rfl (Or.inl rfl) (jah jaB (pv 0) jab))
  (jad (jal (i:=0) S.nd rfl (Or.inl rfl) (jah jas (pv 0) jab))
  (jad (jal (i:=3) S.nd rfl (Or.inl rfl) ja7)
  (jaV (nmM H) (jbo PassesOwn.never rfl (jaE rfl T.m_range (jaa (pv 2) jac jaf)) (jax (i:=4) S.nd rfl (Or.inl rfl))
  (jad (jal (i:=3) S.nd rfl (Or.inl rfl) (jah jbw (pv 3) (jcR (pv 1) (jah jaB (pv 0) jab) (fun _ _=>rfl))))
  (jae (jal (i:=0) S.nd rfl (Or.inl rfl) (jah jas (pv 0) jab)))))
  (jad (jal (i:=5) S.nd rfl (Or.inl rfl) (jah jaB (pv 0) (jah ja9 (pv 2) jab)))
  (jad (jal (i:=0) S.nd rfl (Or.inl rfl) (jah jas (pv 0) jab))
  (jad (jal (i:=6) S.nd rfl (Or.inl rfl) (jaN jac))
  (jad (jbo PassesOwn.never rfl (jaE rfl T.m_range (jaa jab jac jaj)) (jax (i:=4) S.nd rfl (Or.inl rfl))
  (jad (jal (i:=7) S.nd rfl (Or.inl rfl) (jcR (pv 1) (jah jaB (jah ja9 (pv 0) (jah jav jab (pv 4))) jab) (fun _ _=>rfl)))
  (jae (jaR (jam jbp (jah jaB (pv 4) jab) jab (jar _))
  (jae (jbT (jeF PySem.F.plainAttrs_list PySem.F.slot_list_append PySem.F.type_list_append jbx (pv 6) (jaa (pv 7) jac jaf))))
  (jae (jbT (jeF PySem.F.plainAttrs_list PySem.F.slot_list_append PySem.F.type_list_append jbx (pv 6) (jaa (jah jbw (jah jbw (jbz (pv 3) jaJ (jaK (pv 5))) (pv 7)) (jbz (pv 3) (jaK (pv 5)) jaJ)) jac jaM))))))))
  (jae (jap (pv 6)))))))))))),?_⟩
 have m0:=xap n (show (8:Int)≠0 by decide);have m1:=xal n (show (0:Int)<8 by decide);have n8:0<=n / 8:=xaD n0 (by decide);walk_at "rf";refine⟨by decide,by decide,.o (by decide) (by decide),by omega,by omega,?_,?_⟩
 ·refine ja8 (lo:=0) (n:=(n % 8).toNat) (fun i σ H2=>H2=H/\∃(k:Int) (x:Str) (o4:Option V),σ=[some (.int k),some (.str abc),some (.int (n % 8)),some (.str x),o4,none,none,none]/\0<=k/\AZ x/\x.cps.size=i) ⟨rfl,_,_,none,rfl,n8,fun c hc=>(nomatch hc),rfl⟩ ?_ ?_
  ·rintro i σ H2 hi ⟨rfl,k,x,o4,rfl,k0,hx,hl⟩;have r0:=xap k (show (26:Int)≠0 by decide);have r1:=xal k (show (0:Int)<26 by decide);obtain⟨c,hc,az',kl⟩:=jjs r0 r1;walk_at "rf";refine⟨by decide,r0,by omega,kl,c,hc,?_,?_⟩
   ·have:x.length=i:=hl;rw[this];exact xaw (show i+1<=1000 by omega) (by decide)
   refine⟨by decide,.o (by decide) (by decide),xaD k0 (by decide),hx.app az',?_⟩;rw[jeb,hl];rfl
  ·rintro σ H2 ⟨rfl,k,x,o4,rfl,k0,hx,hl⟩;exact⟨k,_,x,_,rfl,rfl,k0,m0,m1,hx,by omega⟩
 rintro σ1 H1 ⟨k,many,x,o4,rfl,rfl,k0,y0,y1,hx,hl⟩;have a0:=xap k (show many+1≠0 by omega);have a1:=xal k (show 0<many+1 by omega);walk_at "rf";refine⟨by omega,by decide,.o (by decide) (by decide),by decide,fun p hp=>⟨by decide,by decide,?_⟩⟩;have k8:0<=k / 8:=xaD k0 (by decide);have b0:k % (many+1)<=x.cps.size:=by omega
 refine ja8 (lo:=0) (n:=8) (fun i σ H2=>Same H1 H2/\∃(xs:List Str) (o4 o7:Option V),σ=[some (.int (k / 8)),some (.str abc),some (.int many),some (.str x),o4,some (.int (k % (many+1))),some (.ref p),o7]/\H2 p=some (.lst (xs.map V.str))/\xs.length=i/\∀z∈xs,Nam z) ⟨Same.new hp _,[],_,_,rfl,upd_same,rfl,fun _ z=>nomatch z⟩ ?_ ?_
 ·rintro i σ H2 hi ⟨s2,xs,o4,o7,rfl,e2,lx,hz⟩;have r0:=xap (k / 8+3*(0+(i:Int))) (show (26:Int)≠0 by decide);have r1:=xal (k / 8+3*(0+(i:Int))) (show (0:Int)<26 by decide);obtain⟨c,hc,az',kl⟩:=jjs r0 r1;walk_at "rf";refine⟨.o (by decide) (by decide),.o (by omega) (by omega),by decide,r0,by omega,kl,c,hc,?_⟩;have fin:∀z:Str,Nam z->∃xs':List Str,upd H2 p (.lst (xs.map V.str++[.str z])) p=some (.lst (xs'.map V.str))/\xs'.length=i+1/\∀z∈xs',Nam z:=fun z hz'=>⟨xs++[z],by rw[upd_same,xaj];rfl,by rw[xab,lx];rfl,fun y hy=>by
   rcases xav.mp hy with h | h
   ·exact hz y h
   ·rw[xao.mp h];exact hz'⟩
  have sm:∀o,Same H1 (upd H2 p o):=fun o=>Same.keepN s2 hp o;have ll:(xs.map V.str).length<sizeLine:=by
   rw[xaa,lx];exact jaP (by omega)
  refine⟨by decide,jbR (fun c3=>?_) fun c3=>?_⟩
  ·refine⟨.inl ⟨_,SqL.of e2⟩,p,_,_,rfl,rfl,e2,ll,?_⟩;exact⟨sm _,fin _ ⟨az',xac _,by show 1<=8;decide⟩⟩
  ·have xl:x.length<=sizeLine:=xaw (show x.cps.size<=1000 by omega) (by decide);have t1':=jh4 a0 b0;have t2':=jks a0 b0;have c1:=(jhU a0 b0).1;have c2:=(jgl a0 b0).1;refine⟨.inl ⟨_,SqL.of e2⟩,x,rfl,xl,.inl ⟨rfl,fun z=>nomatch z⟩,_,rfl,?_,x,rfl,xl,.inr ⟨(fun z=>nomatch z),rfl⟩,?_⟩
   ·show (Txt.slice x none (some (k % (many+1)))).cps.size+1<=sizeLine;exact xaw (show _<=1000 by omega) (by decide)
   have t3:(Txt.slice x none (some (k % (many+1)))++(⟨#[c]⟩:Str)).cps.size=(k % (many+1)).toNat+1:=by rw[jeb,t1'];rfl
   refine⟨_,rfl,?_,p,_,_,rfl,rfl,e2,ll,sm _,fin _ ⟨?_,?_,?_⟩⟩
   ·show (Txt.slice x none (some (k % (many+1)))++(⟨#[c]⟩:Str)).cps.size+(Txt.slice x (some (k % (many+1))) none).cps.size<=sizeLine;rw[t3,t2'];exact xaw (show _<=1000 by omega) (by decide)
   ·exact AZ.app (AZ.app (fun d hd=>hx d (c1 d hd)) az') fun d hd=>hx d (c2 d hd)
   ·rw[jeb,t3];omega
   ·rw[jeb,t3,t2'];omega
 ·rintro σ H2 ⟨s2,xs,o4,o7,rfl,e2,lx,hz⟩;walk_at "rf";exact q p xs H2 hp s2 e2 lx hz
def jjt:Sp:=fun vs H Q _=>∃(n:Int) (x:Str),vs=[.int n,.str x]/\0<=n/\Nam x/\∀z:Str,Lo z->z.cps.size<=900->nm z=false->Q (.str z) H
theorem jkt (T:Tx K mg t1 t2) (F:At K mg "_law_bad_name" jbE ["number","name"] []):jaw P w K mg base CX0 1 "_law_bad_name" ["number","name"] [] jjt:=by
 refine F.ok jcd (fun vs H Q E h=>?_) (fun f cdv A outer s H vs Q E hr h=>?_)
 ·obtain⟨n,x,rfl,_⟩:=h;rfl
 obtain⟨n,x,rfl,n0,⟨hz0,x1,x8⟩,q⟩:=h;have S:=jcd;refine⟨_,(jad (jal (i:=2) S.nd rfl (Or.inl rfl) (jah jaB (jah jas (pv 0) jab) (jah ja9 (jau jf2 rfl T.m_len PySem.boot_len (jaa (pv 1) jac jaf)) jab)))
  (jad (jaR (jam jbp (jah jaB (pv 0) jab) jab (jar _))
  (jae (jap ja7))
  jaq)
  (jad (jaR (jam jbp (jah jaB (pv 0) jab) jab (jar _))
  (jae (jap (jbz (jah jbw (pv 1) ja7) jaJ (jaK jab))))
  jaq)
  (jae (jap (jah jbw (jah jbw (jbz (jbz (pv 1) jaJ (jaK (pv 2))) jaJ (jaK jab)) (jcR ja7 (jah jaB (jah jas (pv 0) jab) jab) (fun _ _=>rfl))) (jbz (jbz (pv 1) (jaK (pv 2)) jaJ) jaJ (jaK jab)))))))),?_⟩
 have n3:0<=n / 3:=xaD n0 (by decide);have a0:=xap (n / 3) (show (x.cps.size:Int)+1≠0 by omega);have a1:=xal (n / 3) (show 0<(x.cps.size:Int)+1 by omega);have n27:0<=n / 27:=xaD n0 (by decide);have b0:=xap (n / 27) (show (10:Int)≠0 by decide);have b1:=xal (n / 27) (show (0:Int)<10 by decide);have big:∀{m:Nat},m<=900->m<=sizeLine:=fun h=>xaw h (by decide);walk_at "rf";refine⟨by decide,.o (by decide) (by decide),x.cps.size,⟨big (show x.length<=900 by show x.cps.size<=900;omega),rfl⟩,by omega,by decide,jbR (fun _=>q _ (fun c hc=>(nomatch hc)) (by decide) (by decide +kernel)) fun _=>⟨by decide,jbR (fun _=>?_) fun _=>?_⟩⟩
 ·have e9:(Str.ofString "abcdefghi").cps.size=9:=by decide +kernel
  have l9:Lo (Str.ofString "abcdefghi"):=fun c hc=>by
   have e:(Str.ofString "abcdefghi").cps.toList.all (fun c=>decide (c<128))=true:=by decide +kernel
   exact of_decide_eq_true (xaR.mp e c hc)
  have sz:=jeb x (Str.ofString "abcdefghi");have tk:=jh4 (x:=x++Str.ofString "abcdefghi") (j:=9) (by decide) (by omega);refine⟨big (show x.cps.size+(Str.ofString "abcdefghi").cps.size<=900 by omega),_,rfl,big (show (x++Str.ofString "abcdefghi").cps.size<=900 by omega),.inl ⟨rfl,fun z=>nomatch z⟩,q _ (fun c hc=>?_) (by rw[tk];decide) ?_⟩
  ·rcases jeR ((jeQ (x:=x++Str.ofString "abcdefghi") (j:=9) (by decide)).1 c hc) with h | h
   ·exact hz0.lo c h
   ·exact l9 c h
  ·unfold nm;rw[tk];rfl
 ·have c1:=jeQ (x:=x) a0;refine⟨x,rfl,big (show x.cps.size<=900 by omega),.inl ⟨rfl,fun z=>nomatch z⟩,?_⟩;show rSlS (.str (Txt.slice x none (some (n / 3 % ((x.cps.size:Int)+1))))) _ _ _ _;generalize Txt.slice x none (some (n / 3 % ((x.cps.size:Int)+1)))=u1 at c1 |-
  have c2:=jeQ (x:=u1) (j:=7) (by decide);refine⟨u1,rfl,big (show u1.cps.size<=900 by omega),.inl ⟨rfl,fun z=>nomatch z⟩,?_⟩;generalize Txt.slice u1 none (some 7)=u2 at c2 |-
  have e10:(Str.ofString "AZ09 _-.{`").cps.size=10:=by decide +kernel
  have hlt:(n / 27 % 10).toNat<(Str.ofString "AZ09 _-.{`").cps.size:=by omega
  have hc:(Str.ofString "AZ09 _-.{`").cps[(n / 27 % 10).toNat]?=some (Str.ofString "AZ09 _-.{`").cps[(n / 27 % 10).toNat]:=Array.getElem?_eq_getElem hlt
  have hb:(Str.ofString "AZ09 _-.{`").cps[(n / 27 % 10).toNat]<128/\az (Str.ofString "AZ09 _-.{`").cps[(n / 27 % 10).toNat]=false:=by
   have e:(Str.ofString "AZ09 _-.{`").cps.all (fun c=>decide (c<128/\az c=false))=true:=by decide +kernel
   rw[Array.all_eq_true] at e;exact of_decide_eq_true (e _ hlt)
  generalize (Str.ofString "AZ09 _-.{`").cps[(n / 27 % 10).toNat]=c at hc hb
  have d1:=jgl (x:=x) a0 (by omega);refine⟨by decide,.o (by decide) (by decide),by decide,b0,by omega,(by show n / 27 % 10<(((Str.ofString "AZ09 _-.{`").cps.size:Nat):Int);omega),c,hc,u2,rfl,big (show u2.cps.size+1<=900 by omega),x,rfl,big (show x.cps.size<=900 by omega),.inr ⟨(fun z=>nomatch z),rfl⟩,?_⟩
  generalize Txt.slice x (some (n / 3 % ((x.cps.size:Int)+1))) none=u3 at d1 |-
  have d2:=jeQ (x:=u3) (j:=1) (by decide);refine⟨u3,rfl,big (show u3.cps.size<=900 by omega),.inl ⟨rfl,fun z=>nomatch z⟩,_,rfl,?_⟩;generalize Txt.slice u3 none (some 1)=u4 at d2 |-
  have z1:=jeb u2 (⟨#[c]⟩:Str);have z2:=jeb (u2++(⟨#[c]⟩:Str)) u4;have z3:(⟨#[c]⟩:Str).cps.size=1:=rfl;refine⟨big (show (u2++(⟨#[c]⟩:Str)).cps.size+u4.cps.size<=900 by omega),q _ (fun d hd=>?_) (by omega) (jls (c:=c) (jh5 (.inl (jh5 (.inr (by simp))))) hb.2)⟩;rcases jeR hd with h | h
  ·rcases jeR h with h | h
   ·exact hz0.lo d (c1.1 d (c2.1 d h))
   ·have:d=c:=by simpa using h
    rw[this];exact hb.1
  ·exact hz0.lo d (d1.1 d (d2.1 d h))
def jeS (n:Nat):List (Int × Int):=(List.range n).map fun k:Nat=>((k:Int),(k:Int)*(k:Int))
def jkH:List (List (Int × Int)):=[[(0,0),(1,0),(0,1)],[(0,0),(1,0),(1,1),(0,1)],[(0,0),(3,0),(1,2)],[(0,0),(2,0),(3,1),(1,2)],[(0,1),(1,0),(3,0),(4,1),(3,3),(1,3)],jeS 3,jeS 4,jeS 5,jeS 6,jeS 7,jeS 8]
def jlD:Sp:=fun vs H Q _=>∃n:Int,vs=[.int n]/\0<=n/\∀(l:Addr) (rs:List Addr) (ps:List (Int × Int)) (H':Hp),Same H H'->H' l=some (.lst (rs.map V.ref))->Prs H' rs ps->ps∈jkH->Q (.ref l) H'
theorem jju {H:Hp}:∀{rs:List Addr} {ps:List (Int × Int)},rs.length=ps.length->(∀(i:Nat) (r:Addr) (p:Int × Int),rs[i]?=some r->ps[i]?=some p->H r=some (.tup [.int p.1,.int p.2]))->Prs H rs ps
 | [],[],_,_=>.nil
 | r::rs,p::ps,hl,h=>.cons (h 0 r p rfl rfl) (jju (Nat.succ.inj hl) fun i r' p' h1 h2=>h (i+1) r' p' h1 h2)
 | [],_::_,hl,_=>nomatch hl
 | _::_,[],hl,_=>nomatch hl
theorem jlE {φ:V->Hp->Prop} {D:Ends} (h:Mk σ te φ) (q:∀v H',Same H H'->φ v H'->D.rt v H'):jic te D σ H:=h H _ q
theorem jh6 {φ:Nat->Addr->Prop}:∀(ys:List V),(∀(i:Nat) (y:V),ys[i]?=some y->∃r,y=.ref r/\φ i r)->∃rs:List Addr,ys=rs.map V.ref/\∀(i:Nat) (r:Addr),rs[i]?=some r->φ i r
  | [],_=>⟨[],rfl,fun _ _ h=>nomatch h⟩
  | y :: ys, h => by
    obtain⟨rs,e,hr⟩:=jh6 (φ:=fun i r=>φ (i+1) r) ys fun i y' h'=>h (i+1) y' h';obtain⟨r,e',h0⟩:=h 0 y rfl;refine⟨r::rs,by rw[e,e'];rfl,fun i r' h'=>?_⟩;cases i with
    | zero=>cases h';exact h0
    | succ i=>exact hr i r' h'
theorem jfs {m:Int} {tn:TS} {D:Ends} (h:σ[i]?=some (some (.int m))) (a:m=k->jic te D σ H) (b:m≠k->tn D σ H):jjE (jjF (jfw (tOp rEq (jgU i) (tC (.int k)))) (jic te) jgv) tn D σ H:=by
 refine⟨_,h,rfl,_,rfl,?_⟩;by_cases c:m=k
 ·show if decide (V.int m=V.int k)=true then _ else _;rw[if_pos (decide_eq_true (by rw[c]))];exact a c
 ·show if decide (V.int m=V.int k)=true then _ else _;rw[if_neg (fun z=>c (V.int.inj (of_decide_eq_true z)))];exact b c
theorem jlF (T:Tx K mg t1 t2) (F:At K mg "_law_shape" jcp ["number"] []):jaw P w K mg base CX0 1 "_law_shape" ["number"] [] jlD:=by
 refine F.okW jc8 (fun vs H Q E h=>?_) (fun f cdv A outer s H vs Q E hr h=>?_)
 ·obtain⟨n,rfl,_⟩:=h;rfl
 obtain⟨n,rfl,n0,q⟩:=h;have S:=jc8;refine⟨_,(jcE ⟨(jal (i:=1) S.nd rfl (Or.inl rfl) (jah jaB (pv 0) jab))⟩
  (jcE (jht (jam jbp (pv 1) jab (jar _)) (jdV (jfa (jfb (jao (jbf (jao ⟨jab⟩ (jao ⟨jab⟩ ja3 jaj) jaj)) (jao (jbf (jao ⟨jab⟩ (jao ⟨jab⟩ ja3 jaj) jaj)) (jao (jbf (jao ⟨jab⟩ (jao ⟨jab⟩ ja3 jaj) jaj)) ja3 jaY) jaY) jaY)))) ⟨jaq⟩)
  (jcE (jht (jam jbp (pv 1) jab (jar _)) (jdV (jfa (jfb (jao (jbf (jao ⟨jab⟩ (jao ⟨jab⟩ ja3 jaj) jaj)) (jao (jbf (jao ⟨jab⟩ (jao ⟨jab⟩ ja3 jaj) jaj)) (jao (jbf (jao ⟨jab⟩ (jao ⟨jab⟩ ja3 jaj) jaj)) (jao (jbf (jao ⟨jab⟩ (jao ⟨jab⟩ ja3 jaj) jaj)) ja3 jaY) jaY) jaY) jaY)))) ⟨jaq⟩)
  (jcE (jht (jam jbp (pv 1) jab (jar _)) (jdV (jfa (jfb (jao (jbf (jao ⟨jab⟩ (jao ⟨jab⟩ ja3 jaj) jaj)) (jao (jbf (jao ⟨jab⟩ (jao ⟨jab⟩ ja3 jaj) jaj)) (jao (jbf (jao ⟨jab⟩ (jao ⟨jab⟩ ja3 jaj) jaj)) ja3 jaY) jaY) jaY)))) ⟨jaq⟩)
  (jcE (jht (jam jbp (pv 1) jab (jar _)) (jdV (jfa (jfb (jao (jbf (jao ⟨jab⟩ (jao ⟨jab⟩ ja3 jaj) jaj)) (jao (jbf (jao ⟨jab⟩ (jao ⟨jab⟩ ja3 jaj) jaj)) (jao (jbf (jao ⟨jab⟩ (jao ⟨jab⟩ ja3 jaj) jaj)) (jao (jbf (jao ⟨jab⟩ (jao ⟨jab⟩ ja3 jaj) jaj)) ja3 jaY) jaY) jaY) jaY)))) ⟨jaq⟩)
  (jcE (jht (jam jbp (pv 1) jab (jar _)) (jdV (jfa (jfb (jao (jbf (jao ⟨jab⟩ (jao ⟨jab⟩ ja3 jaj) jaj)) (jao (jbf (jao ⟨jab⟩ (jao ⟨jab⟩ ja3 jaj) jaj)) (jao (jbf (jao ⟨jab⟩ (jao ⟨jab⟩ ja3 jaj) jaj)) (jao (jbf (jao ⟨jab⟩ (jao ⟨jab⟩ ja3 jaj) jaj)) (jao (jbf (jao ⟨jab⟩ (jao ⟨jab⟩ ja3 jaj) jaj)) (jao (jbf (jao ⟨jab⟩ (jao ⟨jab⟩ ja3 jaj) jaj)) ja3 jaY) jaY) jaY) jaY) jaY) jaY)))) ⟨jaq⟩)
  ⟨(jae (jap (ja6 rfl (N':=["k"]) (ix:=[]) (by walk_at "cs") (jaE rfl T.m_range (jaa (jah ja9 jab (jah jaB (jah jas (pv 0) jab) jab)) jac jaM)) (fun _ _ _ _=>jax (i:=0) (show (["k"]:List Str).Nodup from by decide +kernel) rfl (Or.inl rfl)) (fun _ _ _ _=>jbb) (fun _ _ _ _=>(ja5 (jaa (pv 0) (jaa (jah jav (pv 0) (pv 0)) jac jaM) jaf))))))⟩)))))),?_⟩
 have q':∀ps,ps∈jkH->∀v H',Same H H'->IsL ps v H'->Q v H':=fun ps hp v H' s' ⟨l,rs,e,h1,h2⟩=>by
  subst e;exact q l rs ps H' s' h1 h2 hp
 have m1:=xap (n / 6) (show (6:Int)≠0 by decide);have m2:=xal (n / 6) (show (0:Int)<6 by decide);refine⟨_,rfl,_,_,rfl,rfl,(by show (0:Int)<6;decide),?_⟩;have rows:∀{σ:L2.St} {te:TE} {D:Ends} {ps:List (Int × Int)},D.rt=Q->ps∈jkH->Mk σ te (IsL ps)->jic te D σ H:=fun hD hp h=>jlE h fun v H' s' i=>by rw[hD];exact q' _ hp v H' s' i
 refine jfs (m:=n % 6) rfl (fun _=>rows (ps:=[(0,0),(1,0),(0,1)]) rfl (by decide) ?_) fun c0=>?_
 ·exact jfr (jaF (jaZ jbS jbS) (jaF (jaZ jbS jbS) (jaF (jaZ jbS jbS) jdd))) (by decide)
 refine jfs (m:=n % 6) rfl (fun _=>rows (ps:=[(0,0),(1,0),(1,1),(0,1)]) rfl (by decide) ?_) fun c1=>?_
 ·exact jfr (jaF (jaZ jbS jbS) (jaF (jaZ jbS jbS) (jaF (jaZ jbS jbS) (jaF (jaZ jbS jbS) jdd)))) (by decide)
 refine jfs (m:=n % 6) rfl (fun _=>rows (ps:=[(0,0),(3,0),(1,2)]) rfl (by decide) ?_) fun c2=>?_
 ·exact jfr (jaF (jaZ jbS jbS) (jaF (jaZ jbS jbS) (jaF (jaZ jbS jbS) jdd))) (by decide)
 refine jfs (m:=n % 6) rfl (fun _=>rows (ps:=[(0,0),(2,0),(3,1),(1,2)]) rfl (by decide) ?_) fun c3=>?_
 ·exact jfr (jaF (jaZ jbS jbS) (jaF (jaZ jbS jbS) (jaF (jaZ jbS jbS) (jaF (jaZ jbS jbS) jdd)))) (by decide)
 refine jfs (m:=n % 6) rfl (fun _=>rows (ps:=[(0,1),(1,0),(3,0),(4,1),(3,3),(1,3)]) rfl (by decide) ?_) fun c4=>?_
 ·exact jfr (jaF (jaZ jbS jbS) (jaF (jaZ jbS jbS) (jaF (jaZ jbS jbS) (jaF (jaZ jbS jbS) (jaF (jaZ jbS jbS) (jaF (jaZ jbS jbS) jdd)))))) (by decide)
 walk_at "rf";refine⟨by decide,.o (by decide) (by decide),by decide,by omega,by omega,fun acc hacc=>?_⟩;obtain⟨m,em⟩:∃m:Nat,(3+n / 6 % 6).toNat=m:=⟨_,rfl⟩;have m3:3<=m:=by omega
 have m8:m<=8:=by omega
 rw[em];refine jk8 (fun i y H=>∃r,y=.ref r/\H r=some (.tup [.int (i:Int),.int ((i:Int)*(i:Int))])) (fun i y H H' h s=>?_) (by omega) hacc (fun i H3 R hi s3 hR=>?_) (fun ys H3 s3 e3 l3 hp=>?_)
 ·obtain⟨r,e,h⟩:=h;exact⟨r,e,s _ _ h⟩
 ·walk_at "rf";have z:(0:Int)+(i:Int)=(i:Int):=Int.zero_add _;rw[z];refine⟨.o (by omega) (by omega),.o (by omega) (by omega),by show 2<=sizeLine;decide,fun p hp=>?_⟩;exact hR _ _ (Same.new hp _) ⟨p,rfl,upd_same⟩
 ·obtain⟨rs,rfl,hr⟩:=jh6 (φ:=fun i r=>H3 r=some (.tup [.int (i:Int),.int ((i:Int)*(i:Int))])) ys hp;rw[xaa] at l3;refine q acc rs (jeS m) H3 s3 e3 (jju (by unfold jeS;rw[xaa,xbi,l3]) fun i r p h1 h2=>?_) ?_
  ·have hi:i<m:=by
    have:=(xai.mp h1).1;omega
   unfold jeS at h2;rw[xak,List.getElem?_range hi] at h2;cases h2;exact hr i r h1
  ·have:m=3\/m=4\/m=5\/m=6\/m=7\/m=8:=by omega
   rcases this with rfl | rfl | rfl | rfl | rfl | rfl<;>decide
def jlG:Sp:=fun vs H Q _=>∃n:Int,vs=[.int n]/\0<=n/\∀(t a b:Addr) (u v:Tri) (H':Hp),Same H H'->H' t=some (.tup [.ref a,.ref b])->A3 H' a u->A3 H' b v->(-3<=u.x/\u.x<=3)/\(-3<=u.y/\u.y<=3)/\(-3<=u.z/\u.z<=3)->(-3<=v.x/\v.x<=3)/\(-3<=v.y/\v.y<=3)/\(-3<=v.z/\v.z<=3)->¬(u.x*v.y=u.y*v.x/\u.x*v.z=u.z*v.x/\u.y*v.z=u.z*v.y)->Q (.ref t) H'
theorem jlH (T:Tx K mg t1 t2) (F:At K mg "_law_arrows" jb3 ["number"] []):jaw P w K mg base CX0 1 "_law_arrows" ["number"] [] jlG:=by
 refine F.ok jcL (fun vs H Q E h=>?_) (fun f cdv A outer s H vs Q E hr h=>?_)
 ·obtain⟨n,rfl,_⟩:=h;rfl
 obtain⟨n,rfl,n0,q⟩:=h;have S:=jcL;refine⟨_,(jad (jal (i:=1) S.nd rfl (Or.inl rfl) (jaN (jaa (jah ja2 (jah jaB (pv 0) jab) jab) (jaa (jah ja2 (jah jaB (jah jas (pv 0) jab) jab) jab) (jaa (jah ja2 (jah jaB (jah jas (pv 0) jab) jab) jab) jac jaM) jaM) jaM)))
  (jad (jal (i:=0) S.nd rfl (Or.inl rfl) (jah jas (pv 0) jab))
  (jad (jal (i:=2) S.nd rfl (Or.inl rfl) (jaN (jaa (jah ja2 (jah jaB (pv 0) jab) jab) (jaa (jah ja2 (jah jaB (jah jas (pv 0) jab) jab) jab) (jaa (jah ja2 (jah jaB (jah jas (pv 0) jab) jab) jab) jac jaM) jaM) jaM)))
  (jad (jaR (PW.pt (jdv (jam jbp (jah jav (jak jan (pv 1) jab) (jak jan (pv 2) jab)) (jah jav (jak jan (pv 1) jab) (jak jan (pv 2) jab)) (jar _)) (jdv (jam jbp (jah jav (jak jan (pv 1) jab) (jak jan (pv 2) jab)) (jah jav (jak jan (pv 1) jab) (jak jan (pv 2) jab)) (jar _)) (jdg (jam jbp (jah jav (jak jan (pv 1) jab) (jak jan (pv 2) jab)) (jah jav (jak jan (pv 1) jab) (jak jan (pv 2) jab)) (jar _))))))
  (jae (jap (ja5 (jaa (jaN (jaa jab (jaa jab (jaa (jah ja2 (jah jaB (pv 0) jab) jab) jac jaM) jaj) jaj)) (jaa (jaN (jaa jab (jaa jab (jaa (jah ja2 (jah jaB (jah jas (pv 0) jab) jab) jab) jac jaM) jaj) jaj)) jac jci) jci))))
  jaq)
  (jae (jap (ja5 (jaa (pv 1) (jaa (pv 2) jac jaf) jaf)))))))),?_⟩
 have e7:∀k:Int,0<=k % 7/\k % 7<7:=fun k=>⟨xap _ (by decide),xal _ (by decide)⟩;have e5:∀k:Int,0<=k % 5/\k % 5<5:=fun k=>⟨xap _ (by decide),xal _ (by decide)⟩;have f7:Fit 7:=.o (by decide) (by decide);have f49:Fit 49:=.o (by decide) (by decide);have f343:Fit 343:=.o (by decide) (by decide);have f5:Fit 5:=.o (by decide) (by decide);have sl3:3<=sizeLine:=by decide
 have sl2:2<=sizeLine:=by decide
 walk_at "rf";refine⟨by decide,by decide,f7,by decide,by decide,f49,by decide,sl3,fun p hp=>ja4 hp fun J1 j1 k1=>⟨by decide,f343,by decide,by decide,f7,by decide,by decide,f49,by decide,sl3,fun p1 hp1=>ja4 hp1 fun J2 j2 k2=>?_⟩⟩;have a1:=e7 n;have a2:=e7 (n / 7);have a3:=e7 (n / 49);have a4:=e7 (n / 343);have a5:=e7 (n / 343 / 7);have a6:=e7 (n / 343 / 49);have qa:=SqL.of (K:=K) (j2 _ _ k1);have qb:=SqL.of (K:=K) k2;have ka:=j2 _ _ k1;generalize n % 7=x1 at *
 generalize n / 7 % 7=x2 at *
 generalize n / 49 % 7=x3 at *
 generalize n / 343 % 7=y1 at *
 generalize n / 343 / 7 % 7=y2 at *
 generalize n / 343 / 49 % 7=y3 at *
 have fin:¬((x1-3)*(y2-3)=(x2-3)*(y1-3)/\(x1-3)*(y3-3)=(x3-3)*(y1-3)/\(x2-3)*(y3-3)=(x3-3)*(y2-3))->∀t H',Same J2 H'->H' t=some (.tup [.ref p,.ref p1])->Q (.ref t) H':=fun c t H' s' e=>q t p p1 ⟨x1-3,x2-3,x3-3⟩ ⟨y1-3,y2-3,y3-3⟩ H' (j1.trans (j2.trans s')) e (s' _ _ ka) (s' _ _ k2) ⟨⟨by show -3<=x1-3;omega,by show x1-3<=3;omega⟩,⟨by show -3<=x2-3;omega,by show x2-3<=3;omega⟩,by show -3<=x3-3;omega,by show x3-3<=3;omega⟩ ⟨⟨by show -3<=y1-3;omega,by show y1-3<=3;omega⟩,⟨by show -3<=y2-3;omega,by show y2-3<=3;omega⟩,by show -3<=y3-3;omega,by show y3-3<=3;omega⟩ c;have mk:¬((x1-3)*(y2-3)=(x2-3)*(y1-3)/\(x1-3)*(y3-3)=(x3-3)*(y1-3)/\(x2-3)*(y3-3)=(x3-3)*(y2-3))->2<=sizeLine/\∀r:Addr,J2 r=none->Q (V.ref r) (upd J2 r (HO.tup [V.ref p,V.ref p1])):=fun c=>⟨sl2,fun r hr=>fin c r _ (Same.new hr _) upd_same⟩;walk_at "gf";refine jbR (fun c1=>?_) fun c1=>mk fun z=>c1 z.1;walk_at "gf";refine jbR (fun c2=>?_) fun c2=>mk fun z=>c2 z.2.1;walk_at "gf";refine jbR (fun c3=>?_) fun c3=>mk fun z=>c3 z.2.2;walk_at "gf";intro a ha;refine ja4 ha fun J3 j3 k3=>⟨by decide,f5,by decide,sl3,fun b hb=>ja4 hb fun J4 j4 k4=>⟨sl2,fun r hr=>?_⟩⟩;have b1:=e5 (n / 343);have b2:=e5 (n / 343 / 5);refine q r a b ⟨1,0,n / 343 % 5-2⟩ ⟨0,1,n / 343 / 5 % 5-2⟩ _ (j1.trans (j2.trans (j3.trans (j4.trans (Same.new hr _))))) upd_same (Same.new hr _ _ _ (j4 _ _ k3)) (Same.new hr _ _ _ k4) ⟨⟨by show (-3:Int)<=1;decide,by show (1:Int)<=3;decide⟩,⟨by show (-3:Int)<=0;decide,by show (0:Int)<=3;decide⟩,by show -3<=n / 343 % 5-2;omega,by show n / 343 % 5-2<=3;omega⟩ ⟨⟨by show (-3:Int)<=0;decide,by show (0:Int)<=3;decide⟩,⟨by show (-3:Int)<=1;decide,by show (1:Int)<=3;decide⟩,by show -3<=n / 343 / 5 % 5-2;omega,by show n / 343 / 5 % 5-2<=3;omega⟩ fun z=>?_;have z1:(1:Int)*1=0*0:=z.1;exact absurd z1 (by decide)
def RwAt (H:Hp) (l:Addr) (rs:List Addr) (us:List Tri):Prop:=H l=some (.lst (rs.map V.ref))/\All2 (A3 H) rs us
variable {us:List Tri}
theorem RwAt.keep (h:RwAt H l rs us) (s:Same H H'):RwAt H' l rs us:=⟨s _ _ h.1,h.2.mono fun _ _ e=>s _ _ e⟩
def jku (s u v:Tri) (p:Int × Int):Tri:=⟨s.x+p.1*u.x+p.2*v.x,s.y+p.1*u.y+p.2*v.y,s.z+p.1*u.z+p.2*v.z⟩
def tsm (d:Int) (u:Tri):Prop:=(-d<=u.x/\u.x<=d)/\(-d<=u.y/\u.y<=d)/\(-d<=u.z/\u.z<=d)
structure RowD (us:List Tri) (w:Int):Prop where
 w1:1<=w
 w3:w<=3
 ex:∃(s u v:Tri) (ps:List (Int × Int)),ps∈jkH/\us=ps.map (jku s u v)/\tsm 1000001 s/\tsm 3 u/\tsm 3 v/\¬(u.x*v.y=u.y*v.x/\u.x*v.z=u.z*v.x/\u.y*v.z=u.z*v.y)
def jjv:Sp:=fun vs H Q _=>∃n:Int,vs=[.int n]/\0<=n/\∀(t l:Addr) (rs:List Addr) (us:List Tri) (w:Int) (H':Hp),Same H H'->H' t=some (.tup [.ref l,.int w])->RwAt H' l rs us->RowD us w->Q (.ref t) H'
def rwM (H:Hp):L2.St->Hp->Prop:=fun σ H'=>∃(l:Addr) (rs:List Addr) (ps:List (Int × Int)) (m w n:Int),σ=[some (.int n),some (.ref l),some (.int m),some (.int w),none,none,none,none]/\Same H H'/\H' l=some (.lst (rs.map V.ref))/\Prs H' rs ps/\ps∈jkH/\(m=13\/m=2000001)/\1<=w/\w<=3/\0<=n
theorem jfP:∀ps∈jkH,ps.length<=8/\3<=ps.length/\∀p∈ps,(0<=p.1/\p.1<=7)/\0<=p.2/\p.2<=49:=by decide +kernel
theorem Prs.get {ps:List (Int × Int)} (h:Prs H rs ps):∀{i:Nat} {r:Addr},rs[i]?=some r->∃p,ps[i]?=some p/\H r=some (.tup [.int p.1,.int p.2]):=by
  induction h with
  | nil=>intro i r e;cases e
  | cons h _ ih =>
    intro i r e;cases i with
    | zero=>cases e;exact⟨_,rfl,h⟩
    | succ i=>exact ih e
theorem jkv (T:Tx K mg t1 t2) (F:At K mg "_law_rows" jcX ["number"] []) (dR:jaw P w K mg base CX0 1 "_law_shape" ["number"] [] jlD) (dL:jaw P w K mg base CX0 1 "_law_arrows" ["number"] [] jlG):jaw P w K mg base CX0 2 "_law_rows" ["number"] [] jjv:=by
 refine F.ok jdC (fun vs H Q E h=>?_) (fun f cdv A outer s H vs Q E hr h=>?_)
 ·obtain⟨n,rfl,_⟩:=h;rfl
 obtain⟨n,rfl,n0,q⟩:=h;have S:=jdC;refine⟨_,(jad (jal (i:=1) S.nd rfl (Or.inl rfl) (jai dR hr.m rfl jaA (jaa (pv 0) jac jaf)))
  (jad (jal (i:=0) S.nd rfl (Or.inl rfl) (jah jas (pv 0) jab))
  (jad (jal (i:=2) S.nd rfl (Or.inl rfl) (jak jan (jaN (jaa jab (jaa jab jac jaj) jaj)) (jah jaB (pv 0) jab)))
  (jad (jal (i:=3) S.nd rfl (Or.inl rfl) (jah ja9 jab (jah jaB (jah jas (pv 0) jab) jab)))
  (jaV (rwM H) (jal (i:=0) S.nd rfl (Or.inl rfl) (jah jas (pv 0) jab))
  (jad (jgW (jai dL hr.m rfl jaA (jaa (pv 0) jac jaf)) (jfW rfl (jbd (jax (i:=4) S.nd rfl (Or.inr rfl)) (jbd (jax (i:=5) S.nd rfl (Or.inr rfl)) jdh))))
  (jad (jal (i:=0) S.nd rfl (Or.inl rfl) (jah jas (pv 0) jab))
  (jad (jal (i:=6) S.nd rfl (Or.inr rfl) (jaN (jaa (jah ja2 (jah jaB (pv 0) (pv 2)) (jah jas (pv 2) jab)) (jaa (jah ja2 (jah jaB (jah jas (pv 0) (pv 2)) (pv 2)) (jah jas (pv 2) jab)) (jaa (jah ja2 (jah jaB (jah jas (pv 0) (jah jav (pv 2) (pv 2))) (pv 2)) (jah jas (pv 2) jab)) jac jaM) jaM) jaM)))
  (jad (jfl (i:=7) rfl S.nd rfl rfl (N':=["i","l","start","p","q"]) (ix:=[6,4,5]) (xs0:=["i","l"]) (by walk_at "cs") (jcP (pv 1)) (fun _ _ _ _=>jfH (K:=K) (n:=2) rfl rfl (jbd (jax (i:=0) (show (["i","l","start","p","q"]:List Str).Nodup from by decide +kernel) rfl (Or.inr rfl)) (jbd (jax (i:=1) (show (["i","l","start","p","q"]:List Str).Nodup from by decide +kernel) rfl (Or.inr rfl)) jdh))) (fun _ _ _ _=>jbb) (fun _ _ _ _=>(ja6 rfl (N':=["j","start","i","p","l","q"]) (ix:=[2,0,3,1,4]) (CompScopeC.nest rfl rfl (by decide +kernel) (by decide +kernel) (by decide +kernel) (show ∀y:Str × NameKind,y∈_->y.2=NameKind.free->y.1∈(["start","i","p","l","q"]:List Str) from by decide +kernel) (.cons rfl (.inl rfl) rfl (.cons rfl (.inl rfl) rfl (.cons rfl (.inl rfl) rfl (.cons rfl (.inl rfl) rfl (.cons rfl (.inl rfl) rfl .nil)))))) (jaE rfl T.m_range (jaa jab jac jaj)) (fun _ _ _ _=>jax (i:=0) (show (["j","start","i","p","l","q"]:List Str).Nodup from by decide +kernel) rfl (Or.inl rfl)) (fun _ _ _ _=>jbb) (fun _ _ _ _=>(jah ja9 (jah ja9 (jak (jay (K:=K) rfl) (pv 1) (pv 0)) (jah jav (pv 2) (jak (jay (K:=K) rfl) (pv 3) (pv 0)))) (jah jav (pv 4) (jak (jay (K:=K) rfl) (pv 5) (pv 0))))))))
  (jae (jap (ja5 (jaa (pv 7) (jaa (pv 3) jac jaf) jaf))))))))))))),?_⟩
 walk_at "rf";refine⟨n,rfl,n0,fun l rs ps H1 s1 e1 h1 hp=>?_⟩;walk_at "rf";have f36:Fit 36:=.o (by decide) (by decide);have f2:Fit 2:=.o (by decide) (by decide);have f6:Fit 6:=.o (by decide) (by decide);have sl2:2<=sizeLine:=by decide
 have sl3:3<=sizeLine:=by decide
 have c0:=xap (n / 36) (show (2:Int)≠0 by decide);have c1:=xal (n / 36) (show (0:Int)<2 by decide);have w0:=xap (n / 36 / 2) (show (3:Int)≠0 by decide);have w1:=xal (n / 36 / 2) (show (0:Int)<3 by decide);have n36:0<=n / 36 / 6:=xaD (xaD n0 (by decide)) (by decide);refine⟨by decide,f36,sl2,fun p hp'=>ja4 hp' fun J1 j1 k1=>⟨by decide,?_⟩⟩;obtain⟨m,hm,hat⟩:∃m:Int,(m=13\/m=2000001)/\atI [V.int 13,V.int 2000001] (n / 36 % 2)=some (V.int m):=by
  have:n / 36 % 2=0\/n / 36 % 2=1:=by omega
  rcases this with e | e
  ·exact⟨13,.inl rfl,by rw[e];rfl⟩
  ·exact⟨2000001,.inr rfl,by rw[e];rfl⟩
 refine ixL (SqL.of k1) hat ⟨by decide,f2,by decide,by decide,f6,⟨l,rs,ps,m,_,_,rfl,s1.trans j1,j1 _ _ e1,h1.keep j1.t,hp,hm,by omega,by omega,n36⟩,?_⟩;clear hp h1 e1 s1 k1 j1 hp' hat hm;rintro σ H1 ⟨l,rs,ps,m,v,n,rfl,s1,e1,h1,hp,hm,v1,v3,n0⟩;have m13:13<=m/\m<=2000001:=by omega
 walk_at "rf";refine⟨n,rfl,n0,fun t a b u2 u3 H2 s2 et ea eb bu bv nz=>?_⟩;refine⟨t,rfl,_,SqT.of et,rfl,?_⟩;walk_at "rf";have fm:Fit m:=.o (by omega) (by omega);have mm:0<m*m:=Int.mul_pos (by omega) (by omega);have mm2:m*m<=2000001*2000001:=Int.mul_le_mul m13.2 m13.2 (by omega) (by omega);have f11:Fit 117649:=.o (by decide) (by decide);have em:∀k:Int,0<=k % m/\k % m<m:=fun k=>⟨xap _ (by omega),xal _ (by omega)⟩;have b1:=em (n / 117649);have b2:=em (n / 117649 / m);have b3:=em (n / 117649 / (m*m));refine⟨by decide,f11,by omega,by decide,f2,by omega,fm,by omega,by decide,f2,fm,fm,mm,.o (by omega) (by omega),by omega,by decide,f2,sl3,fun p hp'=>ja4 hp' fun J1 j1 k1=>?_⟩;have bs:tsm 1000001 ⟨n / 117649 % m-m / 2,n / 117649 / m % m-m / 2,n / 117649 / (m*m) % m-m / 2⟩:=⟨⟨by show _<=n / 117649 % m-m / 2;omega,by show n / 117649 % m-m / 2<=_;omega⟩,⟨by show _<=n / 117649 / m % m-m / 2;omega,by show n / 117649 / m % m-m / 2<=_;omega⟩,by show _<=n / 117649 / (m*m) % m-m / 2;omega,by show n / 117649 / (m*m) % m-m / 2<=_;omega⟩;generalize hsv:(⟨n / 117649 % m-m / 2,n / 117649 / m % m-m / 2,n / 117649 / (m*m) % m-m / 2⟩:Tri)=sv at bs;have k1':A3 J1 p sv:=by rw[<- hsv];exact k1
 have e1':=j1 _ _ (s2 _ _ e1);have hps:=jfP ps hp;have lr:=h1.len;refine⟨⟨_,SqL.of e1'⟩,fun acc hacc=>?_⟩;refine jkn (fun i=>jku sv u2 u3 (ps.getD i (0,0))) (by rw[xaa];omega) hacc (SqL.of e1') (fun i z v0 H5 R hz l0 s5 hR=>?_) (fun qs H5 s5 e5 pm py=>?_) jfO
 ·rw[xak] at hz;obtain⟨r,hr1,rfl⟩:=xaW.mp hz;obtain⟨pp,hi,he⟩:=h1.get hr1;obtain⟨v1',v2',rfl⟩:=jkp l0;have en:ps.getD i (0,0)=pp:=by
   rw[xaG,hi];rfl
  have hpp:=hps.2.2 pp (xay hi);refine⟨_,_,rfl,SqT.of (s5 _ _ (j1 _ _ (s2 _ _ he))),rfl,_,_,rfl,_,_,rfl,rfl,⟨[_,_],rfl,rfl⟩,?_⟩;walk_at "rf";refine⟨by decide,by decide,fun acc' hacc'=>?_⟩;refine jk7 (n:=3) (fun k=>.int (tc (jku sv u2 u3 pp) k)) (by decide) hacc' (fun k H6 R6 hk s6 hR6=>?_) (fun H6 s6 e6=>hR acc' H6 s6 hacc' (by rw[en];exact e6));have s56:=s5.trans s6;have qa:=A3.l3 (K:=K) (s56 _ _ k1');have qb:=A3.l3 (K:=K) (s56 _ _ (j1 _ _ ea));have qc:=A3.l3 (K:=K) (s56 _ _ (j1 _ _ eb));unfold L3 at qa qb qc;have tb:-3<=tc u2 k/\tc u2 k<=3:=by
   unfold tc;split
   ·exact bu.1
   ·split
    ·exact bu.2.1
    ·exact bu.2.2
  have td:-3<=tc u3 k/\tc u3 k<=3:=by
   unfold tc;split
   ·exact bv.1
   ·split
    ·exact bv.2.1
    ·exact bv.2.2
  walk_at "rf";refine ixL qa (at3 hk) (ixL qb (at3 hk) ⟨_,rfl,.o (by omega) (by omega),.o (by omega) (by omega),_,rfl,ixL qc (at3 hk) ⟨_,rfl,.o (by omega) (by omega),.o (by omega) (by omega),?_⟩⟩);have z:=hR6 H6 (Same.refl _);obtain rfl | rfl | rfl:k=0\/k=1\/k=2:=by omega
  ·exact z
  ·exact z
  ·exact z
 ·have e1:qs.map Prod.snd=ps.map (jku sv u2 u3):=by
   rw[pm,xaa,lr];exact jea (jku sv u2 u3) ps (fun i=>jku sv u2 u3 (ps.getD i (0,0))) fun i a h=>by rw[xaG,h];rfl
  walk_at "rf";refine⟨sl2,fun r hr=>?_⟩;have s6:=Same.new hr (HO.tup [V.ref acc,V.int v]);refine q r acc (qs.map Prod.fst) (ps.map (jku sv u2 u3)) v _ (s1.trans (s2.trans (j1.trans (s5.trans s6)))) upd_same ⟨s6 _ _ e5,?_⟩ ⟨v1,v3,sv,u2,u3,ps,hp,rfl,bs,bu,bv,nz⟩;rw[<- e1];clear e1 pm e5;induction qs with
  | nil=>exact .nil
  | cons x l ih=>exact .cons (s6 _ _ (py x (xaE ..))) (ih fun y hy=>py y (xar _ hy))
def lowT (w:Int) (u:Tri):Pt:=⟨u.x / gl [u.x,u.y,u.z,w],u.y / gl [u.x,u.y,u.z,w],u.z / gl [u.x,u.y,u.z,w],w / gl [u.x,u.y,u.z,w]⟩
def jeT:Sp:=fun vs H Q _=>∃(l:Addr) (rs:List Addr) (us:List Tri) (w:Int),vs=[.ref l,.int w]/\RwAt H l rs us/\us.length<=20/\(∀u∈us,tsm (2^100) u)/\1<=w/\w<=3/\∀(a:Addr) (ts:List Addr) (H':Hp),H a=none->Same H H'->Cor H' a ts (us.map (lowT w))->Q (.ref a) H'
theorem ji2 (T:Tx K mg t1 t2) (F:At K mg "_law_spots" jcq ["rows","w"] []) (dj:jaw P w K mg base CX0 1 "_law_divisor" ["one","other"] [] jlv):jaw P w K mg base CX0 2 "_law_spots" ["rows","w"] [] jeT:=by
 refine F.ok jc9 (fun vs H Q E h=>?_) (fun f cdv A outer s H vs Q E hr h=>?_)
 ·obtain⟨l,rs,us,v,rfl,_⟩:=h;rfl
 obtain⟨l,rs,us,v,rfl,hR,lu,hb,v1,v3,q⟩:=h;have S:=jc9;refine⟨_,(jad (jal (i:=2) S.nd rfl (Or.inl rfl) (jaN jac))
  (jad (jbo PassesOwn.never rfl (jcP (pv 0)) (jax (i:=3) S.nd rfl (Or.inl rfl))
  (jad (jal (i:=4) S.nd rfl (Or.inl rfl) (jai dj hr.m rfl jaA (jaa (jai dj hr.m rfl jaA (jaa (jak jan (pv 3) jab) (jaa (jak jan (pv 3) jab) jac jaI) jaI)) (jaa (jai dj hr.m rfl jaA (jaa (jak jan (pv 3) jab) (jaa (pv 1) jac jaf) jaI)) jac jaH) jaH)))
  (jae (jbT (jeF PySem.F.plainAttrs_list PySem.F.slot_list_append PySem.F.type_list_append jbx (pv 2) (jaa (ja5 (jaa (jah jas (jak jan (pv 3) jab) (pv 4)) (jaa (jah jas (jak jan (pv 3) jab) (pv 4)) (jaa (jah jas (jak jan (pv 3) jab) (pv 4)) (jaa (jah jas (pv 1) (pv 4)) jac jaM) jaM) jaM) jaM)) jac jaY))))))
  (jae (jap (pv 2))))),?_⟩
 have lr:=hR.2.len;walk_at "rf";refine⟨by decide,fun p hp=>?_⟩;have hpl:l≠p:=jaD hR.1 hp;refine⟨⟨_,SqL.of (by rw[jat hpl];exact hR.1)⟩,?_⟩;refine jdI (K:=K) (a:=l) (xs:=rs.map V.ref) (fun i σ H2=>Same H H2/\∃(ts:List Addr) (o3 o4:Option V),σ=[some (.ref l),some (.int v),some (.ref p),o3,o4]/\H2 p=some (.lst (ts.map V.ref))/\Sps H2 ts ((us.take i).map (lowT v))) ⟨Same.new hp _,[],_,_,rfl,upd_same,.nil⟩ (fun i σ H2 _ ⟨h,_⟩=>SqL.of (h _ _ hR.1)) ?_ ?_
 ·rintro i z σ H2 hz ⟨s2,ts,o3,o4,rfl,e2,h2⟩;rw[xak] at hz;obtain⟨r,hr1,rfl⟩:=xaW.mp hz;obtain⟨u,hu,ea⟩:=hR.2.getA hr1;have qa:=A3.l3 (K:=K) (s2 _ _ ea);unfold L3 at qa;have bu:=hb u (xay hu);walk_at "rf";refine ixL qa (i:=0) rfl (ixL qa (i:=1) rfl ⟨u.x,u.y,rfl,ixL qa (i:=2) rfl ⟨u.z,v,rfl,_,_,rfl,?_⟩⟩);rw[gcd4];have gp:0<gl [u.x,u.y,u.z,v]:=jge (n:=v) (by simp) (by omega);have gv:gl [u.x,u.y,u.z,v]<=v:=Int.le_of_dvd (by omega) (jba (by simp));have gf:Fit (gl [u.x,u.y,u.z,v]):=.o (by omega) (by omega);have il:i<us.length:=(xai.mp hu).1;have lts:ts.length<1000:=by
   rw[h2.len,xaa,xag];omega
  refine⟨.inl ⟨_,SqL.of e2⟩,ixL qa (i:=0) rfl ⟨_,rfl,_,rfl,gp,gf,ixL qa (i:=1) rfl ⟨_,rfl,_,rfl,gp,gf,ixL qa (i:=2) rfl ⟨_,rfl,_,rfl,gp,gf,_,rfl,gp,gf,by show 4<=sizeLine;decide,fun a ha=>ja4 ha fun J1 j1 k1=>?_⟩⟩⟩⟩;refine⟨p,_,_,rfl,rfl,j1 _ _ e2,?_,Same.keepN (s2.trans j1) hp _,ts++[a],upd_same.trans (by rw[xaj];rfl),?_⟩
  ·rw[xaa];exact jaP lts
  ·have st:=SameT.upd (ys:=ts.map V.ref++[V.ref a]) (j1 _ _ e2);rw[xa4,hu,Option.toList_some,xaj];refine (h2.keep (j1.t.trans st)).app (.cons ⟨st _ _ k1,?_⟩ .nil);have dv:∀k d:Int,0<d->-(2^100)<=k/\k<=2^100->Sm2 (k / d):=fun k d hd ⟨h1,h2⟩=>by
    unfold Sm2;have n1:(k / d).natAbs<=k.natAbs:=xa0 k d;have n2:k.natAbs<=2^100:=by omega
    exact xaQ (xaw n1 n2) (by decide)
   exact⟨dv _ _ gp bu.1,dv _ _ gp bu.2.1,dv _ _ gp bu.2.2,dv _ _ gp ⟨by omega,by omega⟩⟩
 ·rintro σ H2 ⟨s2,ts,o3,o4,rfl,e2,h2⟩;walk_at "rf";rw[xaa,lr,xaX] at h2;exact q p ts H2 hp s2 ⟨e2,h2⟩
theorem All2.rev {α β:Type} {R:α->β->Prop} {as:List α} {bs:List β} (h:All2 R as bs):All2 R as.reverse bs.reverse:=by
  induction h with
  | nil=>exact .nil
  | cons h _ ih =>
    rw[xaO,xaO];exact ih.app (.cons h .nil)
def jlI:Sp:=fun vs H Q _=>∃(l:Addr) (rs:List Addr) (us:List Tri) (n:Int),vs=[.ref l,.int n]/\RwAt H l rs us/\us≠[]/\us.length<=20/\0<=n/\∀(a:Addr) (ts:List Addr) (k:Nat) (b:Bool) (H':Hp),Same H H'->RwAt H' a ts (if b=true then (rot k us).reverse else rot k us)->k<us.length->Q (.ref a) H'
theorem jlJ (T:Tx K mg t1 t2) (F:At K mg "_law_turned" jb4 ["rows","number"] []):jaw P w K mg base CX0 1 "_law_turned" ["rows","number"] [] jlI:=by
 refine F.ok jcM (fun vs H Q E h=>?_) (fun f cdv A outer s H vs Q E hr h=>?_)
 ·obtain⟨l,rs,us,n,rfl,_⟩:=h;rfl
 obtain⟨l,rs,us,n,rfl,hR,un,lu,n0,q⟩:=h;have S:=jcM;refine⟨_,(jad (jal (i:=2) S.nd rfl (Or.inl rfl) (jah jaB (pv 1) (jau jaz rfl T.m_len PySem.boot_len (jaa (pv 0) jac jaf))))
  (jad (jal (i:=3) S.nd rfl (Or.inl rfl) (jah jb9 (jaO ja1 (pv 0) (jaK (pv 2)) jaJ) (jaO ja1 (pv 0) jaJ (jaK (pv 2)))))
  (jad (jaR (jam jbp (jah jaB (jah jas (pv 1) jab) jab) jab (jar _))
  (jae (jap (jdX (pv 3) (jdF jb7 jab))))
  jaq)
  (jae (jap (pv 3)))))),?_⟩
 have lr:=hR.2.len;have kl:=SqL.of (K:=K) hR.1;have l1:0<us.length:=List.length_pos_iff.mpr un;have k0:=xap n (show (us.length:Int)≠0 by omega);have k1:=xal n (show 0<(us.length:Int) by omega);walk_at "rf";refine⟨_,.inl kl,?_⟩;rw[xaa,lr];obtain⟨k,ek⟩:∃k:Nat,n % (us.length:Int)=(k:Int):=⟨(n % (us.length:Int)).toNat,by omega⟩;rw[ek];refine⟨by omega,l,_,rfl,kl,fun a1 n1=>?_⟩;rw[jbv];refine ja4 n1 fun J1 j1 i1=>⟨l,_,rfl,SqL.of (j1 _ _ hR.1),fun a2 n2=>?_⟩;rw[jbm];refine ja4 n2 fun J2 j2 i2=>⟨a1,a2,_,_,rfl,rfl,j2 _ _ i1,i2,?_,fun a3 n3=>ja4 n3 fun J3 j3 i3=>⟨by decide,.o (by decide) (by decide),by decide,?_⟩⟩
 ·rw[xag,xaq,xaa];exact xaF (jaP (by omega))
 have sj:=j1.trans (j2.trans j3);have h3:RwAt J3 a3 (rot k rs) (rot k us):=by
  refine⟨?_,((hR.2.drop k).app (hR.2.take k)).mono fun _ _ e=>sj _ _ e⟩;rw[i3];unfold rot;rw[xaj,xaT,xaP]
 have kl2:k<us.length:=by omega
 refine jbR (fun c=>?_) fun c=>q a3 _ k false J3 sj h3 kl2;refine⟨_,rfl,_,rfl,rfl,a3,_,rfl,SqL.of i3,fun a4 n4=>ja4 n4 fun J4 j4 i4=>?_⟩;refine q a4 (rot k rs).reverse k true J4 (sj.trans j4) ⟨?_,(h3.2.rev).mono fun _ _ e=>j4 _ _ e⟩ kl2;rw[i4];unfold rot;rw[List.map_reverse,xaj,xaT,xaP]
theorem All2.mem {α β:Type} {R:α->β->Prop} {as:List α} {bs:List β} (h:All2 R as bs) {a:α} (m:a∈as):∃b∈bs,R a b:=by
 obtain⟨i,hi⟩:=xa3 m;obtain⟨b,hb,r⟩:=h.getA hi;exact⟨b,xay hb,r⟩
theorem jjw (h:i<rs.length):rs[i]?=some (ad rs i):=by
 unfold ad;rw[xaG,xae h];rfl
theorem A3.rds {a:Addr} (h:A3 H a u):Rds K H (.ref a) (.list [.int u.x,.int u.y,.int u.z]):=.lst (SqL.of h) (.cons (.int _) (.cons (.int _) (.cons (.int _) .nil)))
theorem jlK {a:Addr} {Q:VK} (h:RwAt H a rs us) (n1:1<=rs.length) (n8:rs.length<=20) (q:∀j:Nat,j<rs.length->Q (.int j) H):jle K [.ref a] H fun x H1=>jhz K (.ref a) [x] H1 Q:=by
 have k1:=SqL.of (K:=K) h.1;refine⟨a,rs,3,rfl,k1,fun e=>by rw[e] at n1;exact absurd n1 (by decide),fun r m=>?_,fun r m=>?_⟩
 ·obtain⟨u,_,hu⟩:=h.2.mem m;exact⟨[u.x,u.y,u.z],SqL.of hu,rfl⟩
 ·obtain⟨u,_,hu⟩:=h.2.mem m;refine⟨a,_,_,_,rfl,rfl,k1,hu.rds,rfl,by simp [PyData.depth,PyData.depthAll],?_,fun v hv=>?_,⟨_,List.mem_map_of_mem m,hu.rds⟩,?_,?_⟩
  ·simp [PyData.eqv,PyData.eqvAll]
  ·obtain⟨r',m',rfl⟩:=xaB.mp hv;obtain⟨u',_,hu'⟩:=h.2.mem m';exact⟨_,hu'.rds,rfl,by simp [PyData.depth,PyData.depthAll]⟩
  ·rw[xaa];omega
  ·rw[xaa];exact q
def jlL:Sp:=fun vs H Q _=>∃(l:Addr) (rs:List Addr) (us:List Tri) (w:Int),vs=[.ref l,.int w]/\RwAt H l rs us/\3<=us.length/\us.length<=8/\(∀u∈us,tsm (2^100) u)/\1<=w/\w<=3/\∀(a:Addr) (H':Hp),Same H H'->Q (.ref a) H'
theorem jlM (T:Tx K mg t1 t2) (F:At K mg "_law_form" jcY ["rows","w"] []) (dh:jaw P w K mg base CX0 2 "_law_spots" ["rows","w"] [] jeT):jaw P w K mg base CX0 3 "_law_form" ["rows","w"] [] jlL:=by
  refine F.ok jdD (fun vs H Q E h=>?_) (fun f cdv A outer s H vs Q E hr h=>?_)
  . obtain⟨l,rs,us,v,rfl,_⟩:=h
    rfl
  obtain⟨l,rs,us,v,rfl,hR,l3,l8,hb,v1,v3,q⟩:=h;have S:=jdD;refine⟨_,(jad (jal (i:=2) S.nd rfl (Or.inl rfl) (jeF PySem.F.plainAttrs_list PySem.F.slot_list_index PySem.F.type_list_index (jhA (jfG hr)) (pv 0) (jaa (jau (jhC rfl (jfG hr)) rfl T.m_min boot_min (jaa (pv 0) jac jaf)) jac jaH)))
    (jad (jal (i:=3) S.nd rfl (Or.inl rfl) (jah jb9 (jaO ja1 (pv 0) (jaK (pv 2)) jaJ) (jaO ja1 (pv 0) jaJ (jaK (pv 2)))))
    (jad (jaR (jam (jkb (xaQ (Nat.le_add_right _ 64) (jfG hr))) (jak jan (pv 3) (jdF jb7 jab)) (jak jan (pv 3) jab) (jar _))
    (jae (jal (i:=3) S.nd rfl (Or.inl rfl) (jah jb9 (jaO ja1 (pv 3) jaJ (jaK jab)) (jdX (jaO ja1 (pv 3) (jaK jab) jaJ) (jdF jb7 jab)))))
    jaq)
    (jae (jap (jbc jdW rfl T.m_tuple boot_tuple (jaa (jai dh hr.m rfl jaA (jaa (pv 3) (jaa (pv 1) jac jaf) jaf)) jac jaH))))))),?_⟩
  have lr:=hR.2.len;have kl:=SqL.of (K:=K) hR.1;walk_at "rf";refine⟨.inl ⟨_,kl⟩,jlK hR (by omega) (by omega) fun k hk=>⟨_,rfl,l,_,rfl,kl,fun a1 n1=>?_⟩⟩;rw[jbv];refine ja4 n1 fun J1 j1 i1=>⟨_,rfl,l,_,rfl,SqL.of (j1 _ _ hR.1),fun a2 n2=>?_⟩;rw[jbm];refine ja4 n2 fun J2 j2 i2=>⟨a1,a2,_,_,rfl,rfl,j2 _ _ i1,i2,?_,fun a3 n3=>ja4 n3 fun J3 j3 i3=>?_⟩
  . rw[xag,xaq,xaa]
    exact xaF (jaP (by omega))
  have sj:=j1.trans (j2.trans j3);have h3:RwAt J3 a3 (rot k rs) (rot k us):=by
    refine⟨?_,((hR.2.drop k).app (hR.2.take k)).mono fun _ _ e=>sj _ _ e⟩;rw[i3];unfold rot;rw[xaj,xaT,xaP]
  have lk:(rot k rs).length=us.length:=by
    unfold rot;rw[xab,xaq,xag];omega
  have lk2:=h3.2.len;have bk:∀u∈rot k us,tsm (2^100) u:=fun u hu=>hb u (by
    unfold rot at hu;exact (xav.mp hu).elim xaK xaH)
  have q3:=SqL.of (K:=K) h3.1;generalize rot k rs=rs',rot k us=us' at h3 lk lk2 bk q3;have e0:rs'[us.length-1]?=some (ad rs' (us.length-1)):=jjw (by omega);have e1:rs'[1]?=some (ad rs' 1):=jjw (by omega);obtain⟨u0,_,d0⟩:=h3.2.getA e0;obtain⟨u1,_,d1⟩:=h3.2.getA e1;refine ixL q3 (v:=.ref (ad rs' (us.length-1))) (jdK (n:=us.length-1) (by rw[xaa];omega) (by rw[xak,e0];rfl)) (ixL q3 (i:=((1:Nat):Int)) (v:=.ref (ad rs' 1)) (jaS (by rw[xak,e1];rfl)) ?_);refine⟨_,_,[u0.x,u0.y,u0.z],[u1.x,u1.y,u1.z],rfl,rfl,SqL.of d0,SqL.of d1,rfl,fun b=>⟨b,rfl,?_⟩⟩;have fin:∀{J:Hp} {x:Addr} {rs us':_},Same H J->RwAt J x rs us'->us'.length<=20->(∀u∈us',tsm (2^100) u)->jeT [V.ref x,V.int v] J (fun x H1=>∃p,x=V.ref p/\∃x,SqL K H1 p x/\∀(l:Addr),H1 l=none->Q (V.ref l) (upd H1 l (HO.tup x))) E0:=fun {J x rs us'} sJ h l hb=>⟨x,rs,us',v,rfl,h,l,hb,v1,v3,fun a ts H' _ s' hc=>⟨a,rfl,_,SqL.of hc.1,fun l hl=>q _ _ (sJ.trans (s'.trans (Same.new hl _)))⟩⟩;cases b with
  | false =>
    rw[if_neg (by decide)];exact fin sj h3 (by omega) bk
  | true =>
    rw[if_pos rfl];refine⟨a3,_,rfl,q3,fun a4 n4=>?_⟩;rw[show jeD (rs'.map V.ref) none (some 1)=(rs'.map V.ref).take 1 from jbm (f:=1)];refine ja4 n4 fun J4 j4 i4=>⟨_,rfl,_,rfl,a3,_,rfl,SqL.of (j4 _ _ h3.1),fun a5 n5=>?_⟩;rw[show jeD (rs'.map V.ref) (some 1) none=(rs'.map V.ref).drop 1 from jbv (f:=1)];refine ja4 n5 fun J5 j5 i5=>⟨_,rfl,rfl,a5,_,rfl,SqL.of i5,fun a6 n6=>ja4 n6 fun J6 j6 i6=>⟨a4,a6,_,_,rfl,rfl,j6 _ _ (j5 _ _ i4),i6,?_,fun a7 n7=>ja4 n7 fun J7 j7 i7=>?_⟩⟩
    . rw[xaV,xaq,xag,xaa]
      exact xaF (jaP (by omega))
    have s7:=j4.trans (j5.trans (j6.trans j7));refine fin (rs:=rs'.take 1++(rs'.drop 1).reverse) (us':=us'.take 1++(us'.drop 1).reverse) (sj.trans s7) ⟨?_,((h3.2.take 1).app (h3.2.drop 1).rev).mono fun _ _ e=>s7 _ _ e⟩ ?_ fun u hu=>?_
    . rw[i7,xaj,xaP,List.map_reverse,xaT]
    . rw[xab,xag,xaV,xaq]
      omega
    . rcases xav.mp hu with h | h
      . exact bk u (xaH h)
      . exact bk u (xaK (List.mem_reverse.mp h))
theorem ji3 {acc:Addr} (u:Tri) (hacc:H1 acc=none)
  (hs:∀(k:Nat) (H3:Hp) (R:V->Hp->Prop),k<3->Same H1 H3->R (.int (tc u k)) H3->te (some (.int (0+(k:Int)))::ρ) H3 R)
  (hd:∀H',Same H1 H'->A3 H' acc u->Z H'):CompGo (Itr 0 (Int.toNat 3)) ρ (jbL 0) jcg te acc Z H1 :=
 jk7 (n:=3) (fun k=>.int (tc u k)) (by decide) hacc (fun k H3 R hk s3 hR=>hs k H3 R hk s3 (hR H3 (Same.refl _))) (fun H' s' e'=>hd H' s' e')
theorem jlN {acc:Addr} (f:Nat->Tri) (hn:n<1000) (hacc:H1 acc=none)
  (hs:∀(i:Nat) (H3:Hp) (R:V->Hp->Prop),i<n->Same H1 H3->(∀r H4,Same H3 H4->H3 r=none->A3 H4 r (f i)->R (.ref r) H4)->te (some (.int (0+(i:Int)))::ρ) H3 R)
  (hd:∀(ps:List (Addr × Tri)) H',Same H1 H'->H' acc=some (.lst (rfs ps))->ps.map Prod.snd=(List.range n).map f->(∀p∈ps,A3 H' p.1 p.2)->Z H'):CompGo (Itr 0 n) ρ (jbL 0) jcg te acc Z H1:=by
 refine jdm (fun i xs H=>Acc3 f H1 acc i xs H) (.start hacc) ?_ ?_
 ·rintro i xs H hi A;have lx:xs.length=i:=by
   obtain⟨_,_,ps,rfl,hl,_⟩:=A;unfold rfs;rw[xaa,xaa,hl]
  refine hs i H _ hi A.1 fun r H4 s4 nr er=>?_;obtain⟨h1,h2⟩:=A.step hacc s4 nr er;exact⟨h1,jaP (by omega),h2⟩
 ·rintro xs H ⟨g1,g2,ps,rfl,hl,hm,hp⟩;exact hd ps H g1 g2 hm fun p h=>(hp p h).1
theorem jgq {H:Hp}:∀(ps:List (Addr × Tri)),(∀p∈ps,A3 H p.1 p.2)->All2 (A3 H) (ps.map Prod.fst) (ps.map Prod.snd)
 | [],_=>.nil
 | p::ps,h=>.cons (h p (xaE ..)) (jgq ps fun x hx=>h x (xar _ hx))
def jid (u v:Tri):Tri:=⟨u.x-v.x,u.y-v.y,u.z-v.z⟩
theorem tc3 {f:Int->Int->Int} {v:Tri} {k:Nat} (hk:k<3):tc ⟨f u.x v.x,f u.y v.y,f u.z v.z⟩ k=f (tc u k) (tc v k):=by
 obtain rfl | rfl | rfl:k=0\/k=1\/k=2:=by omega
 ·rfl
 ·rfl
 ·rfl
theorem dfc {x acc:Addr} {v:Tri} {i:Int} (kl:SqL K H1 l xs) (hi:atI xs i=some (.ref x)) (hj:atI xs j=some (.ref y)) (hx:A3 H1 x u) (hy:A3 H1 y v) (hacc:H1 acc=none) (hd:∀H',Same H1 H'->A3 H' acc (jid u v)->Z H') :
  CompGo (Itr 0 (Int.toNat 3)) [some (.ref l)] (jbL 0) jcg (tOp (rI0 fun i j=>V.int (i-j)) (tOp (jjW K) (tOp (jjW K) (jgU 1) (tC (V.int i))) (jgU 0)) (tOp (jjW K) (tOp (jjW K) (jgU 1) (tC (V.int j))) (jgU 0))) acc Z H1:=by
 refine ji3 (jid u v) hacc (fun k H3 R hk s3 hR=>?_) hd;walk_at "rf";refine ixL (s3.seq kl) hi (ixL (SqL.of (s3 _ _ hx)) (at3 hk) (ixL (s3.seq kl) hj (ixL (SqL.of (s3 _ _ hy)) (at3 hk) ⟨_,rfl,_,rfl,?_⟩)));rw[show tc (jid u v) k=tc u k-tc v k from tc3 (f:=fun a b=>a-b) hk] at hR;exact hR
def jlO:Sp:=fun vs H Q _=>∃(l:Addr) (rs:List Addr) (us:List Tri) (n:Int),vs=[.ref l,.int n]/\RwAt H l rs us/\3<=us.length/\us.length<=8/\(∀u∈us,tsm (2^30) u)/\0<=n/\∀(a:Addr) (ts:List Addr) (us':List Tri) (H':Hp),Same H H'->RwAt H' a ts us'->us'.length<=9->(∀u∈us',tsm (2^70) u)->Q (.ref a) H'
def slM (H:Hp) (l:Addr) (n m:Int):L2.St->Hp->Prop:=fun σ H'=>H'=H/\σ=[some (.ref l),some (.int n),some (.int (n % 6)),some (.int (n / 6 % m)),none,none,none]
theorem jlP (T:Tx K mg t1 t2) (F:At K mg "_law_spoilt" jb5 ["rows","number"] []):jaw P w K mg base CX0 1 "_law_spoilt" ["rows","number"] [] jlO:=by
 refine F.ok jcN (fun vs H Q E h=>?_) (fun f cdv A outer s H vs Q E hr h=>?_)
 ·obtain⟨l,rs,us,n,rfl,_⟩:=h;rfl
 obtain⟨l,rs,us,n,rfl,hR,l3,l8,hb,n0,q⟩:=h;have S:=jcN;refine⟨_,(jad (jal (i:=2) S.nd rfl (Or.inl rfl) (jah jaB (pv 1) jab))
  (jaV (slM H l n (us.length:Nat)) (jal (i:=3) S.nd rfl (Or.inr rfl) (jah jaB (jah jas (pv 1) jab) (jau jaz rfl T.m_len PySem.boot_len (jaa (pv 0) jac jaf))))
  (jaV (slM H l n (us.length:Nat)) (jaR (jam jbp (pv 2) jab (jar _))
  (jae (jap (jaO ja1 (pv 0) jaJ (jaK (jah jaB (jah jas (pv 1) jab) jab)))))
  jaq)
  (jaV (slM H l n (us.length:Nat)) (jaR (jam jbp (pv 2) jab (jar _))
  (jae (jap (jah jb9 (jah jb9 (jaO ja1 (pv 0) jaJ (jaK (pv 3))) (jaN (jaa (jak jan (pv 0) (pv 3)) jac jaI))) (jaO ja1 (pv 0) (jaK (pv 3)) jaJ))))
  jaq)
  (jaV (slM H l n (us.length:Nat)) (jaR (PW.pt (jdv (jam jbp (pv 2) jab (jar _)) (jdg (jam jeg (jau jaz rfl T.m_len PySem.boot_len (jaa (pv 0) jac jaf)) jab (jar _)))))
  (jad (jal (i:=4) S.nd rfl (Or.inr rfl) (ja6 rfl (N':=["j","rows"]) (ix:=[0]) (by walk_at "cs") (jaE rfl T.m_range (jaa jab jac jaj)) (fun _ _ _ _=>jax (i:=0) (show (["j","rows"]:List Str).Nodup from by decide +kernel) rfl (Or.inl rfl)) (fun _ _ _ _=>jbb) (fun _ _ _ _=>(jah ja2 (jak (jay (K:=K) rfl) (jak (jay (K:=K) rfl) (pv 1) jab) (pv 0)) (jak (jay (K:=K) rfl) (jak (jay (K:=K) rfl) (pv 1) jab) (pv 0))))))
  (jad (jal (i:=5) S.nd rfl (Or.inr rfl) (ja6 rfl (N':=["j","rows"]) (ix:=[0]) (by walk_at "cs") (jaE rfl T.m_range (jaa jab jac jaj)) (fun _ _ _ _=>jax (i:=0) (show (["j","rows"]:List Str).Nodup from by decide +kernel) rfl (Or.inl rfl)) (fun _ _ _ _=>jbb) (fun _ _ _ _=>(jah ja2 (jak (jay (K:=K) rfl) (jak (jay (K:=K) rfl) (pv 1) jab) (pv 0)) (jak (jay (K:=K) rfl) (jak (jay (K:=K) rfl) (pv 1) jab) (pv 0))))))
  (jad (jal (i:=6) S.nd rfl (Or.inr rfl) (jaN (jaa (jah ja2 (jah jav (jak jan (pv 4) jab) (jak jan (pv 5) jab)) (jah jav (jak jan (pv 4) jab) (jak jan (pv 5) jab))) (jaa (jah ja2 (jah jav (jak jan (pv 4) jab) (jak jan (pv 5) jab)) (jah jav (jak jan (pv 4) jab) (jak jan (pv 5) jab))) (jaa (jah ja2 (jah jav (jak jan (pv 4) jab) (jak jan (pv 5) jab)) (jah jav (jak jan (pv 4) jab) (jak jan (pv 5) jab))) jac jaM) jaM) jaM)))
  (jae (jap (jah jb9 (jah jb9 (jaO ja1 (pv 0) jaJ (jaK (pv 3))) (jaN (jaa (ja6 rfl (N':=["j","rows","at","up"]) (ix:=[0,3,6]) (by walk_at "cs") (jaE rfl T.m_range (jaa jab jac jaj)) (fun _ _ _ _=>jax (i:=0) (show (["j","rows","at","up"]:List Str).Nodup from by decide +kernel) rfl (Or.inl rfl)) (fun _ _ _ _=>jbb) (fun _ _ _ _=>(jah ja9 (jak (jay (K:=K) rfl) (jak (jay (K:=K) rfl) (pv 1) (pv 2)) (pv 0)) (jak (jay (K:=K) rfl) (pv 3) (pv 0))))) jac jep))) (jaO ja1 (pv 0) (jaK (jah ja9 (pv 3) jab)) jaJ)))))))
  jaq)
  (jaV (slM H l n (us.length:Nat)) (jaR (PW.pt (jdv (jam jbp (pv 2) jab (jar _)) (jdg (jam jeg (jau jaz rfl T.m_len PySem.boot_len (jaa (pv 0) jac jaf)) jab (jar _)))))
  (jae (jap (jah jb9 (jaN (jaa (jak jan (pv 0) jab) (jaa (jak jan (pv 0) jab) jac jaI) jaI)) (jaO ja1 (pv 0) (jaK jab) jaJ))))
  jaq)
  (jaV (slM H l n (us.length:Nat)) (jaR (jam jbp (pv 2) jab (jar _))
  (jad (jal (i:=4) S.nd rfl (Or.inr rfl) (ja6 rfl (N':=["j","rows"]) (ix:=[0]) (by walk_at "cs") (jaE rfl T.m_range (jaa jab jac jaj)) (fun _ _ _ _=>jax (i:=0) (show (["j","rows"]:List Str).Nodup from by decide +kernel) rfl (Or.inl rfl)) (fun _ _ _ _=>jbb) (fun _ _ _ _=>(jah ja2 (jak (jay (K:=K) rfl) (jak (jay (K:=K) rfl) (pv 1) jab) (pv 0)) (jak (jay (K:=K) rfl) (jak (jay (K:=K) rfl) (pv 1) jab) (pv 0))))))
  (jad (jal (i:=5) S.nd rfl (Or.inr rfl) (ja6 rfl (N':=["j","rows"]) (ix:=[0]) (by walk_at "cs") (jaE rfl T.m_range (jaa jab jac jaj)) (fun _ _ _ _=>jax (i:=0) (show (["j","rows"]:List Str).Nodup from by decide +kernel) rfl (Or.inl rfl)) (fun _ _ _ _=>jbb) (fun _ _ _ _=>(jah ja2 (jak (jay (K:=K) rfl) (jak (jay (K:=K) rfl) (pv 1) jab) (pv 0)) (jak (jay (K:=K) rfl) (jak (jay (K:=K) rfl) (pv 1) jab) (pv 0))))))
  (jae (jap (ja6 rfl (N':=["k","rows","a","b"]) (ix:=[0,4,5]) (by walk_at "cs") (jaE rfl T.m_range (jaa jab jac jaj)) (fun _ _ _ _=>jax (i:=0) (show (["k","rows","a","b"]:List Str).Nodup from by decide +kernel) rfl (Or.inr rfl)) (fun _ _ _ _=>jbb) (fun _ _ _ _=>(ja6 rfl (N':=["j","rows","k","a","b"]) (ix:=[1,0,2,3]) (CompScopeC.nest rfl rfl (by decide +kernel) (by decide +kernel) (by decide +kernel) (show ∀y:Str × NameKind,y∈_->y.2=NameKind.free->y.1∈(["rows","k","a","b"]:List Str) from by decide +kernel) (.cons rfl (.inl rfl) rfl (.cons rfl (.inl rfl) rfl (.cons rfl (.inl rfl) rfl (.cons rfl (.inl rfl) rfl .nil))))) (jaE rfl T.m_range (jaa jab jac jaj)) (fun _ _ _ _=>jax (i:=0) (show (["j","rows","k","a","b"]:List Str).Nodup from by decide +kernel) rfl (Or.inl rfl)) (fun _ _ _ _=>jbb) (fun _ _ _ _=>(jah ja9 (jah ja9 (jak (jay (K:=K) rfl) (jak (jay (K:=K) rfl) (pv 1) jab) (pv 0)) (jah jav (pv 2) (jak (jay (K:=K) rfl) (pv 3) (pv 0)))) (jah jav (jah jav (pv 2) (pv 2)) (jak (jay (K:=K) rfl) (pv 4) (pv 0))))))))))))
  jaq)
  (jae (jap (jaN (jaa (jak jan (pv 0) jab) (jaa (jak jan (pv 0) jab) (jaa (ja6 rfl (N':=["j","rows"]) (ix:=[0]) (by walk_at "cs") (jaE rfl T.m_range (jaa jab jac jaj)) (fun _ _ _ _=>jax (i:=0) (show (["j","rows"]:List Str).Nodup from by decide +kernel) rfl (Or.inl rfl)) (fun _ _ _ _=>jbb) (fun _ _ _ _=>(jah ja2 (jah jav jab (jak (jay (K:=K) rfl) (jak (jay (K:=K) rfl) (pv 1) jab) (pv 0))) (jak (jay (K:=K) rfl) (jak (jay (K:=K) rfl) (pv 1) jab) (pv 0))))) jac jep) jaI) jaI))))))))))),?_⟩
 have lr:=hR.2.len;have kl:=SqL.of (K:=K) hR.1;have lm:(rs.map V.ref).length=us.length:=by rw[xaa,lr]
 have f6:Fit 6:=.o (by decide) (by decide);have p30:(2:Int)^30=1073741824:=by decide
 have p70:(2:Int)^70=1180591620717411303424:=by decide
 have b70:∀u∈us,tsm (2^70) u:=fun u hu=>by
  obtain⟨⟨h1,h2⟩,⟨h3,h4⟩,h5,h6⟩:=hb u hu;rw[p30] at h1 h2 h3 h4 h5 h6;unfold tsm;rw[p70];omega
 have bt:∀u∈us,∀k,-1073741824<=tc u k/\tc u k<=1073741824:=fun u hu k=>by
  obtain⟨h1,h2,h3⟩:=hb u hu;rw[p30] at h1 h2 h3;unfold tc;split
  ·exact h1
  ·split
   ·exact h2
   ·exact h3
 obtain⟨r0,g0⟩:∃r,rs[0]?=some r:=⟨_,xae (by omega)⟩;obtain⟨r1,g1⟩:∃r,rs[1]?=some r:=⟨_,xae (by omega)⟩;obtain⟨r2,g2⟩:∃r,rs[2]?=some r:=⟨_,xae (by omega)⟩;obtain⟨u0,w0,d0⟩:=hR.2.getA g0;obtain⟨u1,w1,d1⟩:=hR.2.getA g1;obtain⟨u2,w2,d2⟩:=hR.2.getA g2;have m0:=xay w0;have m1:=xay w1;have m2:=xay w2;have i0:atI (rs.map V.ref) (((0:Nat)):Int)=some (.ref r0):=jaS (by rw[xak,g0];rfl);have i1:atI (rs.map V.ref) (((1:Nat)):Int)=some (.ref r1):=jaS (by rw[xak,g1];rfl);have i2:atI (rs.map V.ref) (((2:Nat)):Int)=some (.ref r2):=jaS (by rw[xak,g2];rfl);obtain⟨at',ea⟩:∃k:Nat,n / 6 % ((us.length:Nat):Int)=(k:Int):=⟨(n / 6 % ((us.length:Nat):Int)).toNat,by have:=xap (n / 6) (show ((us.length:Nat):Int)≠0 by omega);omega⟩;have al:at'<us.length:=by have:=xal (n / 6) (show 0<((us.length:Nat):Int) by omega);omega
 walk_at "rf";refine⟨by decide,by decide,f6,⟨_,.inl kl,?_⟩,?_⟩
 ·rw[lm];exact⟨by omega,rfl,rfl⟩
 rintro σ H1 ⟨rfl,rfl⟩;walk_at "rf";refine⟨jbR (fun c=>?_) fun c=>⟨rfl,rfl⟩,?_⟩
 ·have k0:=xap (n / 6) (show (3:Int)≠0 by decide);obtain⟨k,ek⟩:∃k:Nat,n / 6 % 3=(k:Int):=⟨(n / 6 % 3).toNat,by omega⟩;rw[ek];refine⟨by decide,f6,by decide,l,_,rfl,kl,fun a1 n1=>?_⟩;rw[jbm];refine ja4 n1 fun J1 j1 e1=>q a1 (rs.take k) (us.take k) J1 j1 ⟨by rw[e1,xaP],(hR.2.take k).mono fun _ _ e=>j1 _ _ e⟩ (by rw[xag];omega) fun u hu=>b70 u (xaH hu)
 rintro σ H2 ⟨rfl,rfl⟩;walk_at "rf";rw[ea];refine⟨jbR (fun c=>?_) fun c=>⟨rfl,by rw[ea]⟩,?_⟩
 ·refine⟨l,_,rfl,kl,fun a1 n1=>?_⟩;rw[jbm];obtain⟨ra,ga⟩:∃r,rs[at']?=some r:=⟨_,xae (by omega)⟩;obtain⟨ua,wa,da⟩:=hR.2.getA ga;refine ja4 n1 fun J1 j1 e1=>ixL (SqL.of (j1 _ _ hR.1)) (v:=.ref ra) (jaS (by rw[xak,ga];rfl)) ⟨by show 1<=sizeLine;decide,fun a2 n2=>ja4 n2 fun J2 j2 e2=>⟨a1,a2,_,_,rfl,rfl,j2 _ _ e1,e2,?_,fun a3 n3=>ja4 n3 fun J3 j3 e3=>?_⟩⟩
  ·rw[xag,lm];exact xaF (jaP (by show _+1<1000;omega))
  refine⟨l,_,rfl,SqL.of (j3 _ _ (j2 _ _ (j1 _ _ hR.1))),fun a4 n4=>?_⟩;rw[jbv];refine ja4 n4 fun J4 j4 e4=>⟨a3,a4,_,_,rfl,rfl,j4 _ _ e3,e4,?_,fun a5 n5=>ja4 n5 fun J5 j5 e5=>?_⟩
  ·rw[xab,xag,xaq,lm];exact xaF (jaP (by show _+1+_<1000;omega))
  have sj:=j1.trans (j2.trans (j3.trans (j4.trans j5)));refine q a5 (rs.take at'++[ra]++rs.drop at') (us.take at'++[ua]++us.drop at') J5 sj ⟨by rw[e5,xaj,xaj,xaP,xaT];rfl,(((hR.2.take _).app (.cons da .nil)).app (hR.2.drop _)).mono fun _ _ e=>sj _ _ e⟩ ?_ fun u hu=>?_
  ·rw[xab,xab,xag,xaq];show _+1+_<=9;omega
  ·rcases xav.mp hu with h | h
   ·rcases xav.mp h with h | h
    ·exact b70 u (xaH h)
    ·rw[xao.mp h];exact b70 _ (xay wa)
   ·exact b70 u (xaK h)
 have sub31:∀{u v:Tri},u∈us->v∈us->∀k,-2147483648<=tc (jid u v) k/\tc (jid u v) k<=2147483648:=fun {u v} hu hv k=>by
  have x:=bt u hu;have y:=bt v hv;have x0:=x 0;have x1:=x 1;have x2:=x 2;have y0:=y 0;have y1:=y 1;have y2:=y 2;unfold tc at *
  simp only[jid] at *
  split
  ·simp at x0 y0 |-
   omega
  ·split
   ·simp at x1 y1 |-
    omega
   ·simp at x2 y2 |-
    omega
 have fit:∀{x:Int},-2147483648<=x/\x<=2147483648->Fit x:=fun h=>.o (by omega) (by omega);have mul62:∀{x y:Int},-2147483648<=x/\x<=2147483648->-2147483648<=y/\y<=2147483648->-4611686018427387904<=x*y/\x*y<=4611686018427387904:=fun {x y} hx hy=>by
  have h:(x*y).natAbs<=2147483648*2147483648:=by
   rw[xbw];exact Nat.mul_le_mul (by omega) (by omega)
  omega
 rintro σ H3 ⟨rfl,rfl⟩;walk_at "rf";refine⟨jbR (fun c=>⟨_,.inl kl,?_⟩) fun c=>⟨rfl,rfl⟩,?_⟩
 ·rw[lm];refine jbR (fun c3=>?_) fun c3=>⟨rfl,rfl⟩;refine⟨by decide,by decide,fun a1 n1=>dfc kl i1 i0 d1 d0 n1 fun J1 j1 e1=>⟨by decide,by decide,fun a2 n2=>dfc (SqL.of (j1 _ _ hR.1)) i2 i0 (j1 _ _ d2) (j1 _ _ d0) n2 fun J2 j2 e2=>?_⟩⟩;have A:=sub31 m1 m0;have B:=sub31 m2 m0;have qa:=SqL.of (K:=K) (j2 _ _ e1);have qb:=SqL.of (K:=K) e2;have j02:=j1.trans j2;generalize jid u1 u0=p1 at e1 qa A;generalize jid u2 u0=p2 at e2 qb B;have A0:=A 0;have A1:=A 1;have A2:=A 2;have B0:=B 0;have B1:=B 1;have B2:=B 2;simp only[tc] at A0 A1 A2 B0 B1 B2;simp at A0 A1 A2 B0 B1 B2;have F0:=fit A0;have F1:=fit A1;have F2:=fit A2;have G0:=fit B0;have G1:=fit B1;have G2:=fit B2;have P1:=mul62 A1 B2;have P2:=mul62 A2 B1;have P3:=mul62 A2 B0;have P4:=mul62 A0 B2;have P5:=mul62 A0 B1;have P6:=mul62 A1 B0;walk_at "gf";intro a3 n3;rw[ea];obtain⟨ra,ga⟩:∃r,rs[at']?=some r:=⟨_,xae (by omega)⟩;obtain⟨ua,wa,da⟩:=hR.2.getA ga;have ba:=bt ua (xay wa);refine ja4 n3 fun J3 j3 e3=>⟨l,_,rfl,SqL.of (j3 _ _ (j02 _ _ hR.1)),fun a4 n4=>?_⟩;rw[jbm];refine ja4 n4 fun J4 j4 e4=>⟨by decide,by decide,fun a5 n5=>?_⟩;have j04:=j02.trans (j3.trans j4);refine ji3 ⟨ua.x+(p1.y*p2.z-p1.z*p2.y),ua.y+(p1.z*p2.x-p1.x*p2.z),ua.z+(p1.x*p2.y-p1.y*p2.x)⟩ n5 (fun k H5 R hk s5 hR5=>?_) fun J5 j5 e5=>?_
  ·walk_at "rf";refine ixL (SqL.of (s5 _ _ (j04 _ _ hR.1))) (v:=.ref ra) (jaS (by rw[xak,ga];rfl)) (ixL (SqL.of (s5 _ _ (j04 _ _ da))) (at3 hk) (ixL (SqL.of (s5 _ _ (j4 _ _ e3))) (at3 (u:=⟨_,_,_⟩) hk) ⟨_,rfl,_,rfl,?_⟩));rw[tc3 (f:=fun a b=>a+b) (v:=⟨p1.y*p2.z-p1.z*p2.y,p1.z*p2.x-p1.x*p2.z,p1.x*p2.y-p1.y*p2.x⟩) hk] at hR5;exact hR5
  ·refine⟨by show 1<=sizeLine;decide,fun a6 n6=>ja4 n6 fun J6 j6 e6=>⟨a4,a6,_,_,rfl,rfl,j6 _ _ (j5 _ _ e4),e6,?_,fun a7 n7=>ja4 n7 fun J7 j7 e7=>?_⟩⟩
   ·rw[xag,lm];exact xaF (jaP (by show _+1<1000;omega))
   have j07:=j04.trans (j5.trans (j6.trans j7));refine⟨l,_,rfl,SqL.of (j07 _ _ hR.1),fun a8 n8=>?_⟩;rw[show (at':Int)+1=((at'+1:Nat):Int) by omega,jbv];refine ja4 n8 fun J8 j8 e8=>⟨a7,a8,_,_,rfl,rfl,j8 _ _ e7,e8,?_,fun a9 n9=>ja4 n9 fun J9 j9 e9=>?_⟩
   ·rw[xab,xag,xaq,lm];exact xaF (jaP (by show _+1+_<1000;omega))
   have sj:=j07.trans (j8.trans j9);refine q a9 (rs.take at'++[a5]++rs.drop (at'+1)) (us.take at'++[_]++us.drop (at'+1)) J9 sj ⟨by rw[e9,xaj,xaj,xaP,xaT];rfl,(((hR.2.take _).mono fun _ _ e=>sj _ _ e).app (.cons (j9 _ _ (j8 _ _ (j7 _ _ (j6 _ _ e5)))) .nil)).app ((hR.2.drop _).mono fun _ _ e=>sj _ _ e)⟩ ?_ fun u hu=>?_
   ·rw[xab,xab,xag,xaq];show _+1+_<=9;omega
   ·rcases xav.mp hu with h | h
    ·rcases xav.mp h with h | h
     ·exact b70 u (xaH h)
     ·rw[xao.mp h];have b0:=ba 0;have b1:=ba 1;have b2:=ba 2;simp only[tc] at b0 b1 b2;simp at b0 b1 b2;unfold tsm;rw[p70];simp only;omega
    ·exact b70 u (xaK h)
 rintro σ H4 ⟨rfl,rfl⟩;walk_at "rf";refine⟨jbR (fun c=>⟨_,.inl kl,?_⟩) fun c=>⟨rfl,rfl⟩,?_⟩
 ·rw[lm];refine jbR (fun c3=>?_) fun c3=>⟨rfl,rfl⟩;refine ixL kl i1 (ixL kl i0 ⟨by show 2<=sizeLine;decide,fun a1 n1=>ja4 n1 fun J1 j1 e1=>⟨l,_,rfl,SqL.of (j1 _ _ hR.1),fun a2 n2=>?_⟩⟩);rw[show jeD (rs.map V.ref) (some 2) none=(rs.map V.ref).drop 2 from jbv (f:=2)];refine ja4 n2 fun J2 j2 e2=>⟨a1,a2,_,_,rfl,rfl,j2 _ _ e1,e2,?_,fun a3 n3=>ja4 n3 fun J3 j3 e3=>?_⟩
  ·rw[xaq,lm];exact xaF (jaP (by show 2+_<1000;omega))
  have sj:=j1.trans (j2.trans j3);refine q a3 ([r1,r0]++rs.drop 2) ([u1,u0]++us.drop 2) J3 sj ⟨by rw[e3,xaj,xaT];rfl,((All2.cons d1 (.cons d0 .nil)).app (hR.2.drop 2)).mono fun _ _ e=>sj _ _ e⟩ ?_ fun u hu=>?_
  ·rw[xab,xaq];show 2+_<=9;omega
  ·rcases xav.mp hu with h | h
   ·simp only[xaf,xam,or_false] at h;rcases h with rfl | rfl
    ·exact b70 _ m1
    ·exact b70 _ m0
   ·exact b70 u (xaK h)
 rintro σ H5 ⟨rfl,rfl⟩;walk_at "rf";refine⟨jbR (fun c=>?_) fun c=>⟨rfl,rfl⟩,?_⟩
 ·refine⟨by decide,by decide,fun a1 n1=>dfc kl i1 i0 d1 d0 n1 fun J1 j1 e1=>⟨by decide,by decide,fun a2 n2=>dfc (SqL.of (j1 _ _ hR.1)) i2 i0 (j1 _ _ d2) (j1 _ _ d0) n2 fun J2 j2 e2=>⟨by decide,by decide,fun a3 n3=>?_⟩⟩⟩;have A:=sub31 m1 m0;have B:=sub31 m2 m0;have C:=bt u0 m0;have j02:=j1.trans j2;have e1':=j2 _ _ e1;generalize jid u1 u0=p1 at e1' A;generalize jid u2 u0=p2 at e2 B;have fk:∀i:Nat,i<9->Fit (0+(i:Int))/\Fit ((0+(i:Int))*(0+(i:Int))):=fun i hi=>by
   have h:0<=(0+(i:Int))*(0+(i:Int))/\(0+(i:Int))*(0+(i:Int))<=64:=by
    have:i=0\/i=1\/i=2\/i=3\/i=4\/i=5\/i=6\/i=7\/i=8:=by omega
    rcases this with rfl | rfl | rfl | rfl | rfl | rfl | rfl | rfl | rfl<;>decide
   exact⟨.o (by omega) (by omega),.o (by omega) (by omega)⟩
  refine jlN (n:=9) (fun i=>⟨u0.x+(0+(i:Int))*p1.x+(0+(i:Int))*(0+(i:Int))*p2.x,u0.y+(0+(i:Int))*p1.y+(0+(i:Int))*(0+(i:Int))*p2.y,u0.z+(0+(i:Int))*p1.z+(0+(i:Int))*(0+(i:Int))*p2.z⟩) (by decide) n3 (fun i H3 R hi s3 hR3=>?_) (fun ps J5 j5 e5 pm py=>?_)
  ·walk_at "rf";refine⟨by decide,by decide,fun a4 n4=>ji3 _ n4 (fun k H4 R4 hk s4 hR4=>?_) fun J6 j6 e6=>hR3 a4 J6 j6 n4 e6⟩;have s04:=j02.trans (s3.trans s4);obtain⟨f1,f2⟩:=fk i hi;walk_at "rf";refine ixL (SqL.of (s04 _ _ hR.1)) i0 (ixL (SqL.of (s04 _ _ d0)) (at3 hk) (ixL (SqL.of (s4 _ _ (s3 _ _ e1'))) (at3 hk) ⟨_,rfl,f1,fit (A k),_,rfl,f1,f1,ixL (SqL.of (s4 _ _ (s3 _ _ e2))) (at3 hk) ⟨_,rfl,f2,fit (B k),?_⟩⟩));obtain rfl | rfl | rfl:k=0\/k=1\/k=2:=by omega
   ·exact hR4
   ·exact hR4
   ·exact hR4
  ·refine q a3 (ps.map Prod.fst) (ps.map Prod.snd) J5 (j02.trans j5) ⟨e5,jgq ps py⟩ (by rw[pm,xaa,xbi];exact xac _) fun u hu=>?_;rw[pm] at hu;obtain⟨i,hi,rfl⟩:=xaB.mp hu;have hi:=xaZ.mp hi;have bd:∀{x a b:Int},(-1073741824<=x/\x<=1073741824)->(-2147483648<=a/\a<=2147483648)->(-2147483648<=b/\b<=2147483648)->-1180591620717411303424<=x+(0+(i:Int))*a+(0+(i:Int))*(0+(i:Int))*b/\x+(0+(i:Int))*a+(0+(i:Int))*(0+(i:Int))*b<=1180591620717411303424:=fun {x a b} hx ha hb=>by
    have:i=0\/i=1\/i=2\/i=3\/i=4\/i=5\/i=6\/i=7\/i=8:=by omega
    rcases this with rfl | rfl | rfl | rfl | rfl | rfl | rfl | rfl | rfl<;>simp<;>omega
   unfold tsm;rw[p70];exact⟨bd (C 0) (A 0) (B 0),bd (C 1) (A 1) (B 1),bd (C 2) (A 2) (B 2)⟩
 rintro σ H6 ⟨rfl,rfl⟩;walk_at "rf";refine ixL kl i0 (ixL kl i1 ⟨by decide,by decide,fun a1 n1=>ji3 ⟨2*u1.x-u0.x,2*u1.y-u0.y,2*u1.z-u0.z⟩ n1 (fun k H3 R hk s3 hR3=>?_) fun J1 j1 e1=>⟨by show 3<=sizeLine;decide,fun a2 n2=>ja4 n2 fun J2 j2 e2=>?_⟩⟩)
 ·walk_at "rf";refine ixL (SqL.of (s3 _ _ hR.1)) i1 (ixL (SqL.of (s3 _ _ d1)) (at3 hk) ⟨_,rfl,.o (by decide) (by decide),fit ⟨by have:=bt u1 m1 k;omega,by have:=bt u1 m1 k;omega⟩,ixL (SqL.of (s3 _ _ hR.1)) i0 (ixL (SqL.of (s3 _ _ d0)) (at3 hk) ⟨_,rfl,?_⟩)⟩);rw[tc3 (f:=fun a b=>2*a-b) hk] at hR3;exact hR3
 ·have sj:=j1.trans j2;refine q a2 [r0,r1,a1] [u0,u1,_] J2 sj ⟨e2,.cons (sj _ _ d0) (.cons (sj _ _ d1) (.cons (j2 _ _ e1) .nil))⟩ (by show 3<=9;decide) fun u hu=>?_;simp only[xaf,xam,or_false] at hu;rcases hu with rfl | rfl | rfl
  ·exact b70 _ m0
  ·exact b70 _ m1
  ·obtain⟨x1,x2,x3⟩:=hb u1 m1;obtain⟨y1,y2,y3⟩:=hb u0 m0;rw[p30] at x1 x2 x3 y1 y2 y3;unfold tsm;rw[p70];simp only;omega
inductive Deed
 | put (x:Str) (ps:List Pt) (g:Bool)
 | drop (x:Str)
 | back
def DeedAt (H:Hp) (d:Addr):Deed->Prop
 | .put x ps g=>(∃(l:Addr) (rs:List Addr) (fo:V) (b:Bool),H d=some (.tup [.str "put",.str x,.ref l,fo,.bl b])/\Cor H l rs ps)/\(g=true↔GoodB ps)/\Lo x/\x.cps.size<=900
 | .drop x=>H d=some (.tup [.str "drop",.str x])
 | .back=>H d=some (.tup [.str "back"])
theorem DeedAt.keep {d:Addr} {D:Deed} (h:DeedAt H d D) (s:Same H H'):DeedAt H' d D:=by
  cases D with
  | put x ps g =>
    obtain⟨⟨l,rs,fo,b,e,c⟩,h⟩:=h;exact⟨⟨l,rs,fo,b,s _ _ e,c.keep s⟩,h⟩
  | drop x=>exact s _ _ h
  | back=>exact s _ _ h
abbrev Rws:=List (Str × List Pt)
def step (st:Rws) (past:List Rws):Deed->(Rws × List Rws) × Option Nat
  | .put x ps g => match jbs st x g with
    | none=>((st++[(x,frm ps ps)],past++[st]),none)
    | some i=>((st,past),some i)
  | .drop x=>if inN x st=true then ((st.eraseIdx (plN x st),past++[st]),none) else ((st,past),some 0)
  | .back => match past.getLast? with
    | none=>((st,past),some 3)
    | some s=>((s,past.dropLast),none)
def flg:Option Nat->List Bool
 | none=>[]
 | some i=>[decide (i=0),decide (i=1),decide (i=2),decide (i=3)]
theorem jec {st:Rws} {x:Str} {g:Bool} (h:jbs st x g=some i):i<4:=by
 unfold jbs at h;split at h
 ·cases h;decide
 ·split at h
  ·cases h;decide
  ·split at h
   ·cases h;decide
   ·split at h
    ·cases h;decide
    ·cases h
def jkw (cs:Nat->Addr):Sp:=fun vs H Q _=>∃(e:Addr) (i:Nat),vs=[.ref e]/\H e=some (jbX e (cs i))/\i<4/\∀(l:Addr) (H':Hp),H l=none->Same H H'->H' l=some (.lst ((flg (some i)).map V.bl))->Q (.ref l) H'
theorem jlQ (T:Tyd K mg t1 t2 cs SE Y) (F:At K mg "_law_flags" jcr ["e"] [])  :DefN P w K mg base 1 "_law_flags" ["e"] (jkw cs):=by
 refine F.okN jda (fun vs H Q E h=>?_) (fun f cdv A outer s H vs Q E hr h=>?_)
 ·obtain⟨e,i,rfl,_⟩:=h;rfl
 obtain⟨e,i,rfl,he,i4,q⟩:=h;have S:=jda;refine⟨_,(jae (jap (jaN (jaa (jau (jbu (K:=K) rfl) rfl T.m_isinstance boot_isinstance (jaa (pv 0) (jaa (jce rfl T.m_NoName T.r_NoName) jac jaf) jaf)) (jaa (jau (jbu (K:=K) rfl) rfl T.m_isinstance boot_isinstance (jaa (pv 0) (jaa (jce rfl T.m_NoBoard T.r_NoBoard) jac jaf) jaf)) (jaa (jau (jbu (K:=K) rfl) rfl T.m_isinstance boot_isinstance (jaa (pv 0) (jaa (jce rfl T.m_TooMany T.r_TooMany) jac jaf) jaf)) (jaa (jau (jbu (K:=K) rfl) rfl T.m_isinstance boot_isinstance (jaa (pv 0) (jaa (jce rfl T.m_NoDeed T.r_NoDeed) jac jaf) jaf)) jac jaH) jaH) jaH) jaH)))),?_⟩;walk_at "rf";exact⟨_,he,T.xc i i4,_,.inl (T.kt i 0 i4 (by decide)),_,he,T.xc i i4,_,.inl (T.kt i 1 i4 (by decide)),_,he,T.xc i i4,_,.inl (T.kt i 2 i4 (by decide)),_,he,T.xc i i4,_,.inl (T.kt i 3 i4 (by decide)),by show 4<=sizeLine;decide,fun p hp=>q p _ hp (Same.new hp _) upd_same⟩
def ji4 (Y:Addr):Sp:=fun vs H Q _=>∃(M:List Addr) (y pL d:Addr) (st:Rws) (past:List Rws) (D:Deed),vs=[.ref y,.ref d]/\YardAt Y M H y pL st past/\DeedAt (rm M H) d D/\st.length<=6/\past.length<=900 /\
 ∀(r fl:Addr) (H':Hp),H r=none->H fl=none->SX [y,pL] H H'->YardAt Y M H' y pL (step st past D).1.1 (step st past D).1.2->H' r=some (.tup [.non,.ref fl])->H' fl=some (.lst ((flg (step st past D).2).map V.bl))->Q (.ref r) H'
def tyM (Y:Addr) (M:List Addr) (H:Hp) (y pL d:Addr) (st:Rws) (past:List Rws) (D:Deed):L2.St->Hp->Prop:=fun σ H'=>∃(fl:Addr) (o4:Option V),σ=[some (.ref y),some (.ref d),some .non,some (.ref fl),o4]/\H fl=none/\SX [y,pL] H H'/\YardAt Y M H' y pL (step st past D).1.1 (step st past D).1.2/\H' fl=some (.lst ((flg (step st past D).2).map V.bl))
theorem jlR (T:Tyd K mg t1 t2 cs SE Y) (F:At K mg "_law_tried" jcs ["yard","deed"] []) (Dg:jaW P w K mg base (XOk P w) 7 Y "put" ["self","name","corners"] (jlz Y cs)) (dY:jaW P w K mg base (XOk P w) 3 Y "drop" ["self","name"] (jjq Y (cs 0))) (dZ:jaW P w K mg base (XOk P w) 1 Y "back" ["self"] (jjr Y (cs 3))) (dX:DefN P w K mg base 1 "_law_flags" ["e"] (jkw cs)):jaw P w K mg base CX0 8 "_law_tried" ["yard","deed"] [] (ji4 Y):=by
  refine F.ok jdb (fun vs H Q E h=>?_) (fun f cdv A outer s H vs Q E hr h=>?_)
  . obtain⟨M,y,pL,d,st,past,D,rfl,_⟩:=h
    rfl
  obtain⟨M,y,pL,d,st,past,D,rfl,hY,hD,l6,l9,q⟩:=h;have S:=jdb;refine⟨_,(jad (jal (i:=2) S.nd rfl (Or.inl rfl) jel)
    (jad (jal (i:=3) S.nd rfl (Or.inl rfl) (jaN jac))
    (jaV (tyM Y M H y pL d st past D) (jiF (i:=4) (jj0 jfE) rfl T.m_SightError S.nd rfl rfl (Or.inl rfl) (jjh (jam jbp (jak jaC (pv 1) jab) ja7 (jar _))
    (jfD (i:=2) S.nd rfl (Or.inl rfl) (jf9 Dg (pv 0) T.cl hr.m (jaa (jak jaC (pv 1) jab) (jaa (jak jaC (pv 1) jab) jac jaI) jaI)))
    (jjh (jam jbp (jak jaC (pv 1) jab) ja7 (jar _))
    (jfD (i:=2) S.nd rfl (Or.inl rfl) (jf9 dY (pv 0) T.cl hr.m (jaa (jak jaC (pv 1) jab) jac jaI)))
    (jfD (i:=2) S.nd rfl (Or.inl rfl) (jhE dZ (pv 0) T.cl hr.m)))) (fun _=>(jae (jal (i:=3) S.nd rfl (Or.inl rfl) (jiH dX (hr.caught (by decide)) rfl (jaa (pv 4) jac jaf))))))
    (jae (jap (ja5 (jaa (pv 2) (jaa (pv 3) jac jaf) jaf))))))),?_⟩
  walk_at "rf";refine⟨by decide,fun p hp=>ja4 hp fun J1 j1 k1=>⟨?_,?_⟩⟩
  . have hY1:=hY.keep j1
    have hD1:=hD.keep (jaQ j1);have hM:∀a∈[y,pL],a∈M:=fun a ha=>by
      simp only[xaf,xam,or_false] at ha;rcases ha with rfl | rfl
      . exact hY.yM
      . exact hY.pM
    obtain⟨dx,sL,ss,h1,h2,h3,h4⟩:=hY1.ob;have np:p≠y/\p≠pL:=by
      refine⟨fun z=>?_,fun z=>?_⟩
      . rw[z] at hp
        exact hY.al y hY.yM hp
      . rw[z] at hp
        exact hY.al pL hY.pM hp
    have fin:∀H',SX [y,pL] J1 H'->YardAt Y M H' y pL (step st past D).1.1 (step st past D).1.2->(step st past D).2=none->tyM Y M H y pL d st past D [some (V.ref y),some (V.ref d),some V.non,some (V.ref p),none] H':=fun H' s' y' e=>⟨p,_,rfl,hp,(Same.x j1 _).trans s',y',by
      rw[e];exact s' p _ (by simp only[xaf,xam,or_false,not_or];exact np) k1⟩
    have exc:∀i,i<4->step st past D=((st,past),some i)->∀H',Same J1 H'->∀ea,H' ea=none->jkw cs [.ref ea] (upd H' ea (jbX ea (cs i))) (fun x H1=>tyM Y M H y pL d st past D [some (.ref y),some (.ref d),some .non,some x,none] H1) (fun _ _ _=>False):=fun i i4 es H' s' ea he=>⟨ea,i,rfl,upd_same,i4,fun l H2 hl s2 e2=>⟨l,_,rfl,?_,?_,?_,?_⟩⟩;rotate_left
    . have sn:=Same.new he (jbX ea (cs i))
      exact j1.noneN (s'.noneN (sn.noneN hl))
    . exact Same.x (j1.trans (s'.trans ((Same.new he _).trans s2))) _
    . rw[es]
      exact hY.keep (j1.trans (s'.trans ((Same.new he _).trans s2)))
    . rw[es]
      exact e2
    cases D with
    | put x ps g =>
      obtain⟨⟨l,rs,fo,b,ed,hc⟩,hg,lo,l9'⟩:=hD1;have qd:=SqT.of (K:=K) (jbi ed).1;refine ixT qd (i:=0) rfl ⟨rfl,?_⟩;rw[if_pos rfl];refine⟨_,rfl,y,dx,_,rfl,h1,jbG (by decide +kernel) (by decide +kernel),?_⟩;walk_at "rf";refine ixT qd (i:=1) rfl (ixT qd (i:=2) rfl ?_);refine⟨M,y,pL,l,rs,ps,st,past,x,g,rfl,hg,hY1,l6,l9,lo,l9',hc,fun en H' s' y'=>?_,fun i en H' s'=>⟨_,rfl,T.em i (jec en),fun ea he=>exc i (jec en) (by simp only[step,en]) H' s' ea he⟩⟩;have es:step st past (.put x ps g)=((st++[(x,frm ps ps)],past++[st]),none):=by simp only[step,en]
      exact fin H' s' (by rw[es];exact y') (by rw[es])
    | drop x =>
      have qd:=SqT.of (K:=K) (jbi hD1).1;refine ixT qd (i:=0) rfl ⟨rfl,?_⟩;rw[if_neg (by intro z;exact absurd (V.str.inj z) (by decide +kernel))];refine ixT qd (i:=0) rfl ⟨rfl,?_⟩;rw[if_pos rfl];refine⟨_,rfl,y,dx,_,rfl,h1,jbG (by decide +kernel) (by decide +kernel),?_⟩;walk_at "rf";refine ixT qd (i:=1) rfl ?_;refine⟨M,y,pL,st,past,x,rfl,hY1,by omega,l9,fun en H' s' y'=>?_,fun en H' s'=>⟨_,rfl,T.em 0 (by decide),fun ea he=>exc 0 (by decide) (by simp [step,en]) H' s' ea he⟩⟩;have es:step st past (.drop x)=((st.eraseIdx (plN x st),past++[st]),none):=by simp [step,en]
      exact fin H' s' (by rw[es];exact y') (by rw[es])
    | back =>
      have qd:=SqT.of (K:=K) (jbi hD1).1;refine ixT qd (i:=0) rfl ⟨rfl,?_⟩;rw[if_neg (by intro z;exact absurd (V.str.inj z) (by decide +kernel))];refine ixT qd (i:=0) rfl ⟨rfl,?_⟩;rw[if_neg (by intro z;exact absurd (V.str.inj z) (by decide +kernel))];refine⟨_,rfl,y,dx,_,rfl,h1,jbG (by decide +kernel) (by decide +kernel),?_⟩;refine⟨M,y,pL,st,past,rfl,hY1,l9,fun p0 s0 en H' s' y'=>?_,fun en H' s'=>⟨_,rfl,T.em 3 (by decide),fun ea he=>exc 3 (by decide) (by simp [step,en]) H' s' ea he⟩⟩;have es:step st past .back=((s0,p0),none):=by
        simp [step,en]
      exact fin H' s' (by rw[es];exact y') (by rw[es])
  . rintro σ H1 ⟨fl,o4,rfl,hf,sx,hy,ef⟩
    walk_at "rf";refine⟨by show 2<=sizeLine;decide,fun r hr=>ja4 hr fun J1 j1 k1=>?_⟩;have rn:H r=none:=by
      cases e:H r with
      | none=>rfl
      | some o =>
        by_cases c:r∈[y,pL]
        . have hM:r∈M:=by
            simp only[xaf,xam,or_false] at c;rcases c with rfl | rfl
            . exact hY.yM
            . exact hY.pM
          exact absurd hr (hy.al r hM)
        . rw[sx r o c e] at hr
          cases hr
    exact q r fl J1 rn hf (sx.trans (Same.x j1 _)) (hy.keep j1) k1 (j1 _ _ ef)
theorem tsm.mono {b:Int} (h:tsm a u) (l:a<=b):tsm b u:=by
 unfold tsm at *
 omega
theorem RowD.len {w:Int} (h:RowD us w):3<=us.length/\us.length<=8:=by
 obtain⟨s,u,v,ps,hp,rfl,_⟩:=h.ex;have:=jfP ps hp;rw[xaa];omega
theorem jh7 {s b i l:Int} (hs:-1000001<=s/\s<=1000001) (ha:-3<=a/\a<=3) (hb:-3<=b/\b<=3) (hi:0<=i/\i<=7) (hl:0<=l/\l<=49):-1073741824<=s+i*a+l*b/\s+i*a+l*b<=1073741824:=by
 have h1:(i*a).natAbs<=7*3:=by
  rw[xbw];exact Nat.mul_le_mul (by omega) (by omega)
 have h2:(l*b).natAbs<=49*3:=by
  rw[xbw];exact Nat.mul_le_mul (by omega) (by omega)
 omega
theorem RowD.sm {w:Int} (h:RowD us w):∀u∈us,tsm (2^30) u:=fun x hx=>by
 obtain⟨s,u,v,ps,hp,rfl,hs,hu,hv,_⟩:=h.ex;obtain⟨p,hp',rfl⟩:=xaB.mp hx;have:=(jfP ps hp).2.2 p hp';show tsm 1073741824 _;exact⟨jh7 hs.1 hu.1 hv.1 this.1 this.2,jh7 hs.2.1 hu.2.1 hv.2.1 this.1 this.2,jh7 hs.2.2 hu.2.2 hv.2.2 this.1 this.2⟩
theorem jed {a:Addr} (mu:∀m∈M,Mut H m) (h:H a=some (.tup xs)):rm M H a=some (.tup xs):=jbK h fun z=>by
 obtain⟨o,e,n⟩:=mu a z;rw[h] at e;exact n xs (Option.some.inj e).symm
theorem jjx (mu:∀m∈M,Mut H m) (h:Sps H rs ps):Sps (rm M H) rs ps:=by
 induction h with
 | nil=>exact .nil
 | cons h _ ih=>exact .cons ⟨jed mu h.1,h.2⟩ ih
theorem bo_rm {t:Addr} {b:List Pt} (mu:∀m∈M,Mut H m) (h:BoAt H t b):BoAt (rm M H) t b:=by
 obtain⟨rs,e,q⟩:=h;exact⟨rs,jed mu e,jjx mu q⟩
def jjy:Sp:=fun vs H Q _=>∃(M:List Addr) (nl:Addr) (xs:List Str) (n m:Int),vs=[.ref nl,.int n,.int m]/\(∀a∈M,Mut H a)/\H nl=some (.lst (xs.map V.str))/\xs.length=8/\(∀x∈xs,Nam x)/\0<=n/\0<=m/\∀(d:Addr) (D:Deed) (H':Hp),Same H H'->DeedAt (rm M H') d D->(∃x ps g,D=.put x ps g)->Q (.ref d) H'
def puM (M:List Addr) (H:Hp) (x:Str):L2.St->Hp->Prop:=fun σ H'=>∃(o0 o2 o3 o4 fo:Option V) (n:Int) (l:Addr) (rs:List Addr) (ps:List Pt),σ=[o0,some (.int n),o2,o3,o4,some (.str x),fo,some (.ref l)]/\(∃v,fo=some v)/\0<=n/\Same H H'/\H l=none/\Cor H' l rs ps
theorem jkx (T:Tx K mg t1 t2) (F:At K mg "_law_put" jds ["names","number","more"] []) (Da:jaw P w K mg base CX0 2 "_law_rows" ["number"] [] jjv) (Dd:jaw P w K mg base CX0 3 "_law_form" ["rows","w"] [] jlL) (dh:jaw P w K mg base CX0 2 "_law_spots" ["rows","w"] [] jeT) (dJ:jaw P w K mg base CX0 1 "_law_turned" ["rows","number"] [] jlI) (dN:jaw P w K mg base CX0 1 "_law_spoilt" ["rows","number"] [] jlO) (dD:jaw P w K mg base CX0 1 "_law_bad_name" ["number","name"] [] jjt):jaw P w K mg base CX0 4 "_law_put" ["names","number","more"] [] jjy:=by
 refine F.ok jd8 (fun vs H Q E h=>?_) (fun f cdv A outer s H vs Q E hr h=>?_)
 ·obtain⟨M,nl,xs,n,m,rfl,_⟩:=h;rfl
 obtain⟨M,nl,xs,n,m,rfl,mu,hn,lx,hx,n0,m0,q⟩:=h;have S:=jd8;obtain⟨k,ek⟩:∃k:Nat,n % 8=(k:Int):=⟨(n % 8).toNat,by have:=xap n (show (8:Int)≠0 by decide);omega⟩;have k8:k<xs.length:=by have:=xal n (show (0:Int)<8 by decide);omega
 have ex:xs[k]?=some xs[k]:=xae k8;have nx:=hx xs[k] (xbm k8);generalize xs[k]=x at ex nx;refine⟨_,(jad (jgW (jai Da hr.m rfl jaA (jaa (pv 2) jac jaf)) (jfW rfl (jbd (jax (i:=3) S.nd rfl (Or.inl rfl)) (jbd (jax (i:=4) S.nd rfl (Or.inl rfl)) jdh))))
  (jad (jal (i:=5) S.nd rfl (Or.inl rfl) (jak jan (pv 0) (jah jaB (pv 1) jab)))
  (jad (jal (i:=1) S.nd rfl (Or.inl rfl) (jah jas (pv 1) jab))
  (jad (jal (i:=6) S.nd rfl (Or.inl rfl) (jai Dd hr.m rfl jaA (jaa (pv 3) (jaa (pv 4) jac jaf) jaf)))
  (jad (jal (i:=7) S.nd rfl (Or.inl rfl) (jai dh hr.m rfl jaA (jaa (jai dJ hr.m rfl jaA (jaa (pv 3) (jaa (jah jas (pv 1) jab) jac jaM) jaf)) (jaa (pv 4) jac jaf) jaH)))
  (jaV (puM M H x) (jaR (jam jbp (jah jaB (pv 1) jab) jab (jar _))
  (jad (jal (i:=6) S.nd rfl (Or.inl rfl) jel)
  (jae (jal (i:=7) S.nd rfl (Or.inl rfl) (jai dh hr.m rfl jaA (jaa (jai dN hr.m rfl jaA (jaa (pv 3) (jaa (jah jas (pv 1) jab) jac jaM) jaf)) (jaa (pv 4) jac jaf) jaH)))))
  jaq)
  (jad (jaR (jam jeg (jah jaB (pv 1) jab) jab (jar _))
  (jae (jap (ja5 (jaa ja7 (jaa (jai dD hr.m rfl jaA (jaa (jah jas (pv 1) jab) (jaa (pv 5) jac jaf) jaM)) (jaa (pv 7) (jaa (pv 6) (jaa jbq jac jaj) jaf) jaf) jaH) jaj))))
  jaq)
  (jae (jap (ja5 (jaa ja7 (jaa (pv 5) (jaa (pv 7) (jaa (pv 6) (jaa jbq jac jaj) jaf) jaf) jaf) jaj))))))))))),?_⟩
 walk_at "rf";refine⟨m,rfl,m0,fun t l rs us v H1 s1 et hR hD=>⟨t,rfl,_,SqT.of et,rfl,?_⟩⟩;obtain⟨l3,l8⟩:=hD.len;have sm:=hD.sm;have un:us≠[]:=fun z=>by rw[z] at l3;exact absurd l3 (by decide)
 have p30:(2:Int)^30<=2^100:=by decide
 have p70:(2:Int)^70<=2^100:=by decide
 walk_at "rf";rw[ek];have f8:Fit 8:=.o (by decide) (by decide);have f12:Fit 12:=.o (by decide) (by decide);have n12:0<=n / 8 / 12:=xaD (xaD n0 (by decide)) (by decide);have n8:0<=n / 8:=xaD n0 (by decide);refine⟨by decide,ixL (SqL.of (s1 _ _ hn)) (v:=.str x) (jaS (by rw[xak,ex];rfl)) ⟨by decide,f8,l,rs,us,v,rfl,hR,l3,l8,(fun u hu=>(sm u hu).mono p30),hD.w1,hD.w3,fun fa H2 s2=>⟨by decide,f12,l,rs,us,_,rfl,hR.keep s2,un,by omega,n12,fun a3 ts3 k3 b3 H3 s3 h3 hk3=>?_⟩⟩⟩;have len3:(if b3=true then (rot k3 us).reverse else rot k3 us).length<=20:=by
  have:(rot k3 us).length<=20:=by
   unfold rot;rw[xab,xaq,xag];omega
  cases b3<;>simp<;>omega
 have mem3:∀u∈(if b3=true then (rot k3 us).reverse else rot k3 us),tsm (2^100) u:=fun u hu=>by
  have hu':u∈rot k3 us:=by
   cases b3
   ·exact hu
   ·exact List.mem_reverse.mp hu
  unfold rot at hu';exact (sm u ((xav.mp hu').elim xaK xaH)).mono p30
 have s03:=s1.trans (s2.trans s3);refine⟨a3,ts3,_,v,rfl,h3,len3,mem3,hD.w1,hD.w3,fun a4 ts4 H4 n4 s4 h4=>⟨by decide,jbR (fun c=>?_) fun c=>?_,?_⟩⟩
 ·refine⟨by decide,f12,l,rs,us,_,rfl,hR.keep (s2.trans (s3.trans s4)),l3,l8,sm,n12,fun a5 ts5 us5 H5 s5 h5 l5 b5=>?_⟩;refine⟨a5,ts5,us5,v,rfl,h5,by omega,fun u hu=>(b5 u hu).mono p70,hD.w1,hD.w3,fun a6 ts6 H6 n6 s6 h6=>?_⟩;have s05:=s03.trans (s4.trans s5);exact⟨_,_,_,_,_,_,a6,ts6,_,rfl,⟨_,rfl⟩,n8,s05.trans s6,s05.noneN n6,h6⟩
 ·exact⟨_,_,_,_,_,_,a4,ts4,_,rfl,⟨_,rfl⟩,n8,s03.trans s4,s03.noneN n4,h4⟩
 rintro σ H5 ⟨o0,o2,o3,o4,fo,n',lL,rs',ps',rfl,⟨vf,rfl⟩,n0',s5,nl5,h5⟩;have fin:∀(z:Str) (b:Bool),Lo z->z.cps.size<=900->∀d:Addr,H5 d=none->Q (.ref d) (upd H5 d (.tup [.str "put",.str z,.ref lL,vf,.bl b])):=fun z b lo z9 d hd=>by
  have sd:=Same.new hd (.tup [.str "put",.str z,.ref lL,vf,.bl b]);have s06:=s5.trans sd;have mu':∀a∈M,Mut (upd H5 d (.tup [.str "put",.str z,.ref lL,vf,.bl b])) a:=fun a ha=>(mu a ha).keep s06;have cg:Cor (rm M (upd H5 d (.tup [.str "put",.str z,.ref lL,vf,.bl b]))) lL rs' ps':=⟨jbK (sd _ _ h5.1) fun z=>(mu lL z).nn nl5,jjx mu' (h5.2.keep sd.t)⟩;obtain⟨g,hg⟩:∃g:Bool,(g=true↔GoodB ps'):=by
   by_cases c:GoodB ps'
   ·exact⟨true,⟨fun _=>c,fun _=>rfl⟩⟩
   ·exact⟨false,⟨(fun z=>nomatch z),fun z=>absurd z c⟩⟩
  exact q d (.put z ps' g) _ s06 ⟨⟨lL,rs',vf,b,jed mu' upd_same,cg⟩,hg,lo,z9⟩ ⟨_,_,_,rfl⟩
 walk_at "rf";refine⟨by decide,jbR (fun c=>?_) fun c=>?_⟩
 ·refine⟨by decide,f12,_,x,rfl,xaD n0' (by decide),nx,fun z lo z9 _=>⟨by show 5<=sizeLine;decide,fun d hd=>fin z true lo z9 d hd⟩⟩
 ·exact⟨by show 5<=sizeLine;decide,fun d hd=>fin x false nx.1.lo (by have:=nx.2.2;omega) d hd⟩
def boD (b:List Pt):PyData:=.tuple (b.map fun p=>.tuple [.int p.x,.int p.y,.int p.z,.int p.w])
def jc0 (st:Rws) (n:Nat):PyData:=.tuple [.list (st.map fun it=>.str it.1),.list (st.map fun it=>boD it.2),.int n]
structure SeenAt (H:Hp) (r:Addr) (st:Rws) (n:Nat):Prop where
 ex:∃l1 l2 ts,H r=some (.tup [.ref l1,.ref l2,.int (n:Int)])/\H l1=some (.lst (stV st))/\H l2=some (.lst (ts.map V.ref))/\All2 (BoAt H) ts (st.map (·.2))
 lo:∀it∈st,Lo it.1
theorem SeenAt.keep {st:Rws} (h:SeenAt H r st n) (s:Same H H'):SeenAt H' r st n:=by
 obtain⟨l1,l2,ts,h1,h2,h3,h4⟩:=h.ex;exact⟨⟨l1,l2,ts,s _ _ h1,s _ _ h2,s _ _ h3,h4.mono fun _ _ b=>b.keep s⟩,h.lo⟩
theorem jky (h:Sps H rs ps):RdsAll K H (rs.map V.ref) (ps.map fun p=>.tuple [.int p.x,.int p.y,.int p.z,.int p.w]):=by
 induction h with
 | nil=>exact .nil
 | cons h _ ih=>exact .cons (.tup (SqT.of h.1) (.cons (.int _) (.cons (.int _) (.cons (.int _) (.cons (.int _) .nil))))) ih
theorem jkz {ts:List Addr} {bs:List (List Pt)} (h:All2 (BoAt H) ts bs):RdsAll K H (ts.map V.ref) (bs.map boD):=by
  induction h with
  | nil=>exact .nil
  | cons h _ ih =>
    obtain⟨rs,e,q⟩:=h;exact .cons (.tup (SqT.of e) (jky q)) ih
theorem jeU {H:Hp}:∀(xs:List Str),RdsAll K H (xs.map V.str) (xs.map PyData.str)
 | []=>.nil
 | x::xs=>.cons (.str x) (jeU xs)
theorem SeenAt.rds {st:Rws} (h:SeenAt H r st n):Rds K H (.ref r) (jc0 st n):=by
 obtain⟨l1,l2,ts,h1,h2,h3,h4⟩:=h.ex;refine .tup (SqT.of h1) (.cons (.lst (SqL.of h2) ?_) (.cons (.lst (SqL.of h3) ?_) (.cons (.int _) .nil)))
 ·have z:=jeU (K:=K) (H:=H) (nmL st);have e:(nmL st).map PyData.str=st.map fun it=>PyData.str it.1:=by
   unfold nmL;rw[xbl];rfl
  rw[e] at z;exact z
 ·have z:=jkz (K:=K) h4;rw[xbl] at z;exact z
theorem jlS {x:Str} (h:Lo x):PyData.strOk x=true:=by
 unfold PyData.strOk;rw[Array.all_eq_true];intro i hi;have:=h x.cps[i] (by simp);exact decide_eq_true (by omega)
theorem jdt:∀{ds:List PyData},(∀d∈ds,PyData.canLay0 d=true)->PyData.canLayAll0 ds=true
  | [],_=>by simp [PyData.canLayAll0]
  | d :: ds, h => by
    rw[PyData.canLayAll0,h d (xaE ..),jdt fun x hx=>h x (xar _ hx)];rfl
theorem jc1 {n:Nat}:∀{ds:List PyData},(∀d∈ds,PyData.depth d<=n)->PyData.depthAll ds<=n
  | [],_=>by rw[PyData.depthAll];omega
  | d :: ds, h => by
    rw[PyData.depthAll];have h1:=h d (xaE ..);have h2:=jc1 (ds:=ds) fun x hx=>h x (xar _ hx);omega
theorem jjz (b:List Pt):PyData.canLay0 (boD b)=true/\PyData.depth (boD b)<=2:=by
 unfold boD;rw[PyData.canLay0,PyData.depth];refine⟨jdt fun d hd=>?_,Nat.succ_le_succ (jc1 fun d hd=>?_)⟩
 ·obtain⟨p,_,rfl⟩:=xaB.mp hd;simp [PyData.canLay0,PyData.canLayAll0]
 ·obtain⟨p,_,rfl⟩:=xaB.mp hd;simp [PyData.depth,PyData.depthAll]
theorem jbn {st:Rws} (n:Nat) (lo:∀it∈st,Lo it.1):SeqAt.shaped (jc0 st n)=true/\PyData.eqv (jc0 st n) (jc0 st n)=true:=by
 have c1:PyData.canLayAll0 (st.map fun it=>PyData.str it.1)=true:=jdt fun d hd=>by
  obtain⟨it,hi,rfl⟩:=xaB.mp hd;rw[PyData.canLay0];exact jlS (lo it hi)
 have c2:PyData.canLayAll0 (st.map fun it=>boD it.2)=true:=jdt fun d hd=>by
  obtain⟨it,hi,rfl⟩:=xaB.mp hd;exact (jjz _).1
 have e1:PyData.depthAll (st.map fun it=>PyData.str it.1)<=0:=jc1 fun d hd=>by
  obtain⟨it,hi,rfl⟩:=xaB.mp hd;rw[PyData.depth];exact xac _
 have e2:PyData.depthAll (st.map fun it=>boD it.2)<=2:=jc1 fun d hd=>by
  obtain⟨it,hi,rfl⟩:=xaB.mp hd;exact (jjz _).2
 have c:PyData.canLay0 (jc0 st n)=true:=by
  unfold jc0;simp [PyData.canLay0,PyData.canLayAll0,c1,c2]
 have e:PyData.depth (jc0 st n)<=64:=by
  unfold jc0;simp only[PyData.depth,PyData.depthAll];omega
 refine⟨?_,SeqAt.eqv_refl _ c⟩;unfold SeqAt.shaped;rw[c,decide_eq_true e];rfl
def jgr (Y:Addr):Sp:=fun vs H Q _=>∃(M:List Addr) (y pL:Addr) (st:Rws) (past:List Rws),vs=[.ref y]/\YardAt Y M H y pL st past/\st.length<=6/\∀(r:Addr) (H':Hp),H r=none->Same H H'->SeenAt (rm M H') r st past.length->Q (.ref r) H'
theorem jkA (T:Tyd K mg t1 t2 cs SE Y) (F:At K mg "_law_seen" jcZ ["yard"] []) (dg:jaW P w K mg base CX0 1 Y "names" ["self"] (jeO Y)) (dO:jaW P w K mg base CX0 1 Y "boards" ["self"] (jgp Y)) (dU:jaW P w K mg base CX0 1 Y "deeds" ["self"] (jhX Y)):jaw P w K mg base CX0 2 "_law_seen" ["yard"] [] (jgr Y):=by
 refine F.ok jdE (fun vs H Q E h=>?_) (fun f cdv A outer s H vs Q E hr h=>?_)
 ·obtain⟨M,y,pL,st,past,rfl,_⟩:=h;rfl
 obtain⟨M,y,pL,st,past,rfl,hY,l6,q⟩:=h;have S:=jdE;refine⟨_,(jae (jap (ja5 (jaa (jbc jbI rfl T.m_list boot_list (jaa (jcj dg (pv 0) T.cl hr.m jaA) jac jaH)) (jaa (jbc jbI rfl T.m_list boot_list (jaa (jcj dO (pv 0) T.cl hr.m jaA) jac jaH)) (jaa (jcj dU (pv 0) T.cl hr.m jaA) jac jaH) jaH) jaH)))),?_⟩;obtain⟨dx,sL,ss,h1,h2,h3,h4⟩:=hY.ob;have lo:∀it∈st,Lo it.1:=fun it hi=>by
  obtain⟨rs,_,ha⟩:=h3;obtain⟨i,hi⟩:=xa3 hi;obtain⟨r,_,q⟩:=ha.get hi;exact q.2
 walk_at "rf";refine⟨_,rfl,y,dx,_,rfl,h1,jbG (by decide +kernel) (by decide +kernel),y,dx,sL,pL,st,rfl,h1,h3.keep (jbr _ _),by omega,fun l1 H1 n1 s1 e1=>?_⟩;walk_at "rf";refine⟨_,.inl (SqL.of e1),fun l1' n1'=>ja4 n1' fun J1 j1 k1=>?_⟩;have s2:=s1.trans j1;refine⟨_,rfl,y,dx,_,rfl,s2 _ _ h1,jbG (by decide +kernel) (by decide +kernel),y,dx,sL,pL,st,rfl,s2 _ _ h1,h3.keep ((jbr _ _).trans s2),by omega,fun l2 ts H2 n2 s3 e2 a2=>?_⟩;refine⟨_,rfl,_,.inl (SqL.of e2),fun l2' n2'=>ja4 n2' fun J2 j2 k2=>?_⟩;have s4:=s2.trans (s3.trans j2);refine⟨_,rfl,y,dx,_,rfl,s4 _ _ h1,jbG (by decide +kernel) (by decide +kernel),y,pL,dx,sL,ss,rfl,s4 _ _ h1,s4 _ _ h2,by show 3<=sizeLine;decide,fun r hr=>ja4 hr fun J3 j3 k3=>?_⟩;have s5:=s4.trans j3;have mu:∀m∈M,Mut J3 m:=fun m hm=>(hY.mu m hm).keep s5;refine q r J3 (s4.noneN hr) s5 ⟨⟨l1',l2',ts,jed mu ?_,jbK (j3 _ _ (j2 _ _ (s3 _ _ k1))) fun z=>hY.al _ z (s1.noneN n1'),jbK (j3 _ _ k2) fun z=>hY.al _ z ((s2.trans s3).noneN n2'),a2.mono fun _ _ b=>bo_rm mu (b.keep (j2.trans j3))⟩,lo⟩;rw[k3,h4.len]
theorem ifF {b c:Bool}:(if false=true then b else c)=c:=rfl
theorem jlT {b c:Bool}:(if true=true then b else c)=b:=rfl
def Hist (H:Hp) (srs:List Addr) (ss:List Rws):Prop:=srs.length=ss.length/\∀(i:Nat) (r:Addr) (s:Rws),srs[i]?=some r->ss[i]?=some s->SeenAt H r s i
theorem Hist.keep {srs:List Addr} {ss:List Rws} (h:Hist H srs ss) (s:Same H H'):Hist H' srs ss:=⟨h.1,fun i r x h1 h2=>(h.2 i r x h1 h2).keep s⟩
structure Kept (Y:Addr) (M:List Addr) (H:Hp) (y pL sd:Addr) (st:Rws) (past:List Rws):Prop where
 yd:YardAt Y M H y pL st past
 sM:sd∈M
 s1:sd≠y
 s2:sd≠pL
 l6:st.length<=6
 p6:∀s∈past,s.length<=6
 hi:∃srs,H sd=some (.lst (srs.map V.ref))/\Hist (rm M H) srs (past++[st])
theorem jde {H:Hp}:∀(xs:List Bool),RdsAll K H (xs.map V.bl) (xs.map PyData.bool)
 | []=>.nil
 | x::xs=>.cons (.bl x) (jde xs)
theorem jgs (xs:List Bool):SeqAt.shaped (.list (xs.map PyData.bool))=true:=by
 have c:PyData.canLayAll0 (xs.map PyData.bool)=true:=jdt fun d hd=>by
  obtain⟨b,_,rfl⟩:=xaB.mp hd;rw[PyData.canLay0]
 have e:PyData.depthAll (xs.map PyData.bool)<=0:=jc1 fun d hd=>by
  obtain⟨b,_,rfl⟩:=xaB.mp hd;rw[PyData.depth];exact xac _
 unfold SeqAt.shaped;rw[PyData.canLay0,c,PyData.depth,decide_eq_true (by omega)];rfl
theorem jkB {o:Option Nat}:PyData.eqv (.list ((flg o).map PyData.bool)) (.list [])=decide (o=none):=by
 cases o with
 | none=>rfl
 | some i=>rfl
theorem jfQ {st:Rws} {past:List Rws} {x:Str} {g:Bool} (e:jbs st x g=none):step st past (.put x ps g)=((st++[(x,frm ps ps)],past++[st]),none):=by simp only[step,e]
theorem jfR {st:Rws} {past:List Rws} {x:Str} {g:Bool} (e:jbs st x g=some i):step st past (.put x ps g)=((st,past),some i):=by simp only[step,e]
theorem jfS {st:Rws} {past:List Rws} {x:Str} (e:inN x st=true):step st past (.drop x)=((st.eraseIdx (plN x st),past++[st]),none):=by simp [step,e]
theorem jfT {st:Rws} {past:List Rws} {x:Str} (e:¬inN x st=true):step st past (.drop x)=((st,past),some 0):=by simp [step,e]
theorem jfU {st s:Rws} {p:List Rws}:step st (p++[s]) .back=((s,p),none):=by simp [step]
theorem jjA {st:Rws} {past:List Rws} {D:Deed} (h:st.length<=6) (hp:∀s∈past,s.length<=6):(step st past D).1.1.length<=6/\∀s∈(step st past D).1.2,s.length<=6:=by
  have ap:∀s∈past++[st],s.length<=6:=fun s hs=>(xav.mp hs).elim (hp s) fun z=>by rw[xao.mp z];exact h
  cases D with
  | put x ps g =>
    cases e:jbs st x g with
    | some i=>rw[jfR e];exact⟨h,hp⟩
    | none =>
      rw[jfQ e];refine⟨?_,ap⟩;show (st++[(x,frm ps ps)]).length<=6;rw[xab];unfold jbs at e;split at e
      . cases e
      . split at e
        . cases e
        . split at e
          . cases e
          . split at e
            . cases e
            . show st.length+1 <= 6
              omega
  | drop x =>
    by_cases c:inN x st=true
    . rw[jfS c]
      refine⟨?_,ap⟩;have:=List.length_eraseIdx_le st (plN x st);show (st.eraseIdx _).length<=6;omega
    . rw[jfT c]
      exact⟨h,hp⟩
  | back =>
    by_cases c:past=[]
    . subst c
      exact⟨h,hp⟩
    . obtain⟨p0,s0,rfl⟩:∃p0 s0,past=p0++[s0]:=⟨past.dropLast,past.getLast c,(xaI c).symm⟩
      rw[jfU];exact⟨hp s0 (xat _ (xao.mpr rfl)),fun x hx=>hp x (xaS _ hx)⟩
theorem jh8 {st:Rws} {past:List Rws} {D:Deed} (hD:D≠.back):((step st past D).2=none/\(step st past D).1.2=past++[st])\/∃i,i<4/\(step st past D).2=some i/\(step st past D).1=(st,past):=by
  cases D with
  | put x ps g =>
    cases e:jbs st x g with
    | some i=>rw[jfR e];exact .inr ⟨i,jec e,rfl,rfl⟩
    | none=>rw[jfQ e];exact .inl ⟨rfl,rfl⟩
  | drop x =>
    by_cases c:inN x st=true
    . rw[jfS c]
      exact .inl ⟨rfl,rfl⟩
    . rw[jfT c]
      exact .inr ⟨0,by decide,rfl,rfl⟩
  | back=>exact absurd rfl hD
theorem SX.mono {S S':List Addr} (s:SX S H H') (h:∀a∈S,a∈S'):SX S' H H':=fun b o n e=>s b o (fun z=>n (h b z)) e
theorem Kept.mem {st:Rws} {past:List Rws} (h:Kept Y M H y pL sd st past):∀a∈[y,pL,sd],a∈M:=fun a ha=>by
 simp only[xaf,xam,or_false] at ha;rcases ha with rfl | rfl | rfl
 ·exact h.yd.yM
 ·exact h.yd.pM
 ·exact h.sM
theorem Kept.keep {st:Rws} {past:List Rws} (h:Kept Y M H y pL sd st past) (s:Same H H'):Kept Y M H' y pL sd st past:=by
 obtain⟨srs,e,hh⟩:=h.hi;exact⟨h.yd.keep s,h.sM,h.s1,h.s2,h.l6,h.p6,srs,s _ _ e,hh.keep (jaQ s)⟩
theorem Kept.seen_last {st:Rws} {past:List Rws} (h:Kept Y M H y pL sd st past):∃xs r,H sd=some (.lst xs)/\xs.length=past.length+1/\atI xs (-1)=some (.ref r)/\SeenAt (rm M H) r st past.length:=by
 obtain⟨srs,e,hl,hh⟩:=h.hi;have l:srs.length=past.length+1:=by rw[hl,xab];rfl
 have g:srs[past.length]?=some srs[past.length]:=xae (by omega);refine⟨_,srs[past.length],e,by rw[xaa,l],jdK (n:=past.length) (by rw[xaa,l]) (by rw[xak,g];rfl),hh _ _ st g ?_⟩;rw[xaC (xac _),xbv];rfl
def jh9 (Y:Addr):Sp:=fun vs H Q _=>∃(M:List Addr) (y pL sd dl d:Addr) (st:Rws) (past:List Rws) (D:Deed),vs=[.ref y,.ref dl,.ref sd]/\Kept Y M H y pL sd st past/\past.length<=800/\H dl=some (.lst [.ref d])/\dl∉M/\DeedAt (rm M H) d D/\D≠.back /\
 ∀(H':Hp),SX [y,pL,sd] H H'->Kept Y M H' y pL sd (step st past D).1.1 (step st past D).1.2->Q (.bl true) H'
theorem ji5 (T:Tyd K mg t1 t2 cs SE Y) (F:At K mg "_law_steps" jct ["yard","deeds","stood"] []) (df:jaw P w K mg base CX0 8 "_law_tried" ["yard","deed"] [] (ji4 Y)) (db:jaw P w K mg base CX0 2 "_law_seen" ["yard"] [] (jgr Y)):jaw P w K mg base CX0 9 "_law_steps" ["yard","deeds","stood"] [] (jh9 Y):=by
 refine F.ok jdc (fun vs H Q E h=>?_) (fun f cdv A outer s H vs Q E hr h=>?_)
 ·obtain⟨M,y,pL,sd,dl,d,st,past,D,rfl,_⟩:=h;rfl
 obtain⟨M,y,pL,sd,dl,d,st,past,D,rfl,hK,lp,hd,nd,hD,nb,q⟩:=h;have S:=jdc;refine⟨_,(jad (jbo PassesOwn.never rfl (jcP (pv 1)) (jax (i:=3) S.nd rfl (Or.inl rfl))
  (jad (jgW (jai df hr.m rfl jaA (jaa (pv 0) (jaa (pv 3) jac jaf) jaf)) (jfW rfl (jbd (jax (i:=4) S.nd rfl (Or.inl rfl)) (jbd (jax (i:=5) S.nd rfl (Or.inl rfl)) jdh))))
  (jad (jaR (jam jjM (pv 4) jel (jar _))
  (jae (jap jbq))
  jaq)
  (jae (jaR (jam (jk3 (jfG hr)) (pv 5) (jaN jac) (jar _))
  (jae (jbT (jeF PySem.F.plainAttrs_list PySem.F.slot_list_append PySem.F.type_list_append jbx (pv 2) (jaa (jai db hr.m rfl jaA (jaa (pv 0) jac jaf)) jac jaH))))
  (jae (jaR (PW.pt (jeW (jam jeA (jeF PySem.F.plainAttrs_list PySem.F.slot_list_count PySem.F.type_list_count jhx (pv 5) (jaa jbq jac jaj)) jab (jar _)) (jdu (jam (jch (jfG hr)) (jai db hr.m rfl jaA (jaa (pv 0) jac jaf)) (jak jan (pv 2) (jdF jb7 jab)) (jar _)))))
  (jae (jap jbq))
  jaq)))))))
  (jae (jap jbq))),?_⟩
 walk_at "rf";refine⟨⟨_,SqL.of hd⟩,?_⟩;refine jdI (K:=K) (a:=dl) (xs:=[.ref d]) (fun i σ H2=>∃o3 o4 o5:Option V,σ=[some (.ref y),some (.ref dl),some (.ref sd),o3,o4,o5]/\((i=0/\H2=H)\/(i=1/\SX [y,pL,sd] H H2/\Kept Y M H2 y pL sd (step st past D).1.1 (step st past D).1.2))) ⟨_,_,_,rfl,.inl ⟨rfl,rfl⟩⟩ ?_ ?_ ?_
 ·rintro i σ H2 hi ⟨o3,o4,o5,rfl,h⟩;have hM:∀a∈[y,pL,sd],a∈M:=fun a ha=>by
   simp only[xaf,xam,or_false] at ha;rcases ha with rfl | rfl | rfl
   ·exact hK.yd.yM
   ·exact hK.yd.pM
   ·exact hK.sM
  rcases h with ⟨_,rfl⟩ | ⟨_,sx,_⟩
  ·exact SqL.of hd
  ·exact SqL.of (sx dl _ (fun z=>nd (hM _ z)) hd)
 ·rintro i r σ H2 hi ⟨o3,o4,o5,rfl,h⟩;have i0:i=0:=by
   have:=(xai.mp hi).1;simp at this;omega
  subst i0;cases hi;rcases h with ⟨_,rfl⟩ | ⟨c,_⟩
  rotate_left
  ·cases c
  walk_at "rf";refine⟨M,y,pL,d,st,past,D,rfl,hK.yd,hD,hK.l6,by omega,fun r fl H3 rn fn s3 y3 e3 ef=>?_⟩;refine⟨r,rfl,_,SqT.of e3,rfl,?_⟩;walk_at "rf";obtain⟨l6',p6'⟩:=jjA (D:=D) hK.l6 hK.p6;have sd2:sd∉[y,pL]:=by
   simp only[xaf,xam,or_false,not_or];exact⟨hK.s1,hK.s2⟩
  have m2:∀a∈[y,pL],a∈[y,pL,sd]:=fun a ha=>by
   simp only[xaf,xam,or_false] at ha |-
   rcases ha with h | h
   ·exact .inl h
   ·exact .inr (.inl h)
  obtain⟨srs,es,hh⟩:=hK.hi;refine⟨by decide,fun p hp=>ja4 hp fun J j k=>?_⟩;refine⟨_,_,.lst (SqL.of (j _ _ ef)) (jde _),.lst (SqL.of k) .nil,jgs _,by decide,_,rfl,?_⟩;rw[ifF,jkB];have yj:=y3.keep j;have es3:=j _ _ (s3 sd _ sd2 es);have hh3:Hist (rm M J) srs (past++[st]):=hh.keep ((s3.rm fun a ha=>hK.mem a (m2 a ha)).trans (jaQ j));have lsr:srs.length=past.length+1:=by rw[hh.1,xab];rfl
  rcases jh8 (st:=st) (past:=past) nb with ⟨e1,e2⟩ | ⟨i,i4,e1,e2⟩
  ·rw[if_pos (decide_eq_true e1)];refine⟨.inl ⟨_,SqL.of es3⟩,M,y,pL,_,_,rfl,yj,l6',fun r2 H4 n4 s4 se=>?_⟩;refine⟨sd,_,_,rfl,rfl,s4 _ _ es3,?_,?_,?_⟩
   ·rw[xaa,lsr];exact jaP (by omega)
   ·refine (s3.mono m2).trans ((Same.x (j.trans s4) _).trans fun b o hb e=>?_);rw[jat (fun z=>hb (by rw[z];simp))];exact e
   ·have sx5:SX [sd] H4 (upd H4 sd (.lst (srs.map V.ref++[.ref r2]))):=fun b o hb e=>by
     rw[jat (fun z=>hb (by rw[z];simp))];exact e
    have rm5:Same (rm M H4) (rm M (upd H4 sd (.lst (srs.map V.ref++[.ref r2])))):=sx5.rm fun a ha=>by rw[xao.mp ha];exact hK.sM
    have yk:=(yj.keep s4).off sx5 (fun a ha=>by rw[xao.mp ha];exact hK.sM) (fun m hm=>(((hK.yd.mu m hm)) |> fun _=>(yj.keep s4).mu m hm).up fun _ z=>nomatch z) (fun z=>hK.s1 (xao.mp z).symm) (fun z=>hK.s2 (xao.mp z).symm);refine⟨yk,hK.sM,hK.s1,hK.s2,l6',p6',srs++[r2],upd_same.trans (by rw[xaj];rfl),?_,fun i r' s' h1 h2=>?_⟩
    ·rw[e2,xab,xab,hh.1];rfl
    ·rw[e2] at h2 se;by_cases ci:i<srs.length
     ·rw[xaA ci] at h1;rw[xaA (by rw[<- hh.1];exact ci)] at h2;exact (hh3.2 i r' s' h1 h2).keep ((jaQ s4).trans rm5)
     ·have il:i<srs.length+1:=by
       have:=(xai.mp h1).1;rw[xab] at this;exact this
      have ei:i=srs.length:=by omega
      subst ei;rw[xaC (xac _),xbv] at h1;rw[xaC (by rw[hh.1];exact xac _),hh.1,xbv] at h2;cases h1;cases h2;rw[hh.1];exact se.keep rm5
  ·rw[if_neg (by rw[e1];simp)];refine⟨.inl ⟨_,SqL.of (j _ _ ef)⟩,_,SqL.of (j _ _ ef),?_⟩;rw[e1,if_pos ?_]
   ·have yj':YardAt Y M J y pL st past:=by
     rw[e2] at yj;exact yj
    have kj:Kept Y M J y pL sd st past:=⟨yj',hK.sM,hK.s1,hK.s2,hK.l6,hK.p6,srs,es3,hh3⟩;refine⟨M,y,pL,st,past,rfl,yj',hK.l6,fun r2 H4 n4 s4 se=>?_⟩;obtain⟨xs,r0,q1,q2,q3,q4⟩:=(kj.keep s4).seen_last;refine ixL (SqL.of q1) q3 ⟨_,_,(se.keep (jbr _ _)).rds,(q4.keep (jbr _ _)).rds,(jbn _ se.lo).1,(jbn _ se.lo).1,_,rfl,?_⟩;rw[jlT,(jbn _ se.lo).2,if_neg (by decide)];refine⟨(s3.mono m2).trans (Same.x (j.trans s4) _),?_⟩;rw[e2];exact kj.keep s4
   ·have:i=0\/i=1\/i=2\/i=3:=by omega
    rcases this with rfl | rfl | rfl | rfl<;>rfl
 ·rintro σ H2 ⟨o3,o4,o5,rfl,h⟩;rcases h with ⟨c,_⟩ | ⟨_,sx,hk⟩
  ·cases c
  walk_at "rf";exact q H2 sx hk
def jgt (Y:Addr):Sp:=fun vs H Q _=>∃(M:List Addr) (y pL sd:Addr) (st:Rws) (past:List Rws) (m:Int),vs=[.ref y,.ref sd,.int m]/\Kept Y M H y pL sd st past/\past.length<=800/\0<=m/\m<=900 /\
 ∀(H':Hp) (st':Rws) (past':List Rws),SX [y,pL,sd] H H'->Kept Y M H' y pL sd st' past'->past'++[st']=(past++[st]).take (max 1 (past.length+1-m.toNat))->Q (.bl true) H'
theorem jft {α:Type} {l p:List α} {x:α} {j:Nat} (h:p++[x]=l.take j) (hj:j<=l.length):p.length+1=j/\p=l.take (j-1):=by
 have hl:p.length+1=j:=by
  have:=congrArg List.length h;rw[xab,xag] at this;have e:([x]:List α).length=1:=rfl;omega
 refine⟨hl,?_⟩;have:=congrArg (List.take (j-1)) h;rw[List.take_take,List.take_left' (by omega)] at this;rw[this]
 congr 1
 omega
theorem jia (T:Tyd K mg t1 t2 cs SE Y) (F:At K mg "_law_undone" jb6 ["yard","stood","many"] []) (df:jaw P w K mg base CX0 8 "_law_tried" ["yard","deed"] [] (ji4 Y)) (db:jaw P w K mg base CX0 2 "_law_seen" ["yard"] [] (jgr Y)):jaw P w K mg base CX0 9 "_law_undone" ["yard","stood","many"] [] (jgt Y):=by
 refine F.ok jcO (fun vs H Q E h=>?_) (fun f cdv A outer s H vs Q E hr h=>?_)
 ·obtain⟨M,y,pL,sd,st,past,m,rfl,_⟩:=h;rfl
 obtain⟨M,y,pL,sd,st,past,m,rfl,hK,lp,m0,m9,q⟩:=h;have S:=jcO;refine⟨_,(jad (jbo PassesOwn.never rfl (jaE rfl T.m_range (jaa (pv 2) jac jaf)) (jax (i:=3) S.nd rfl (Or.inl rfl))
  (jae (jaR (jam jeg (jau jaz rfl T.m_len PySem.boot_len (jaa (pv 1) jac jaf)) jab (jar _))
  (jad (jbT (jhf PySem.F.plainAttrs_list PySem.F.slot_list_pop PySem.F.type_list_pop jja (pv 1)))
  (jae (jaR (PW.pt (jeW (jam (jch (jfG hr)) (jai df hr.m rfl jaA (jaa (pv 0) (jaa (ja5 (jaa ja7 jac jaj)) jac jaY) jaf)) (ja5 (jaa jel (jaa (jaN jac) jac jci) jaj)) (jar _)) (jdu (jam (jch (jfG hr)) (jai db hr.m rfl jaA (jaa (pv 0) jac jaf)) (jak jan (pv 1) (jdF jb7 jab)) (jar _)))))
  (jae (jap jbq))
  jaq)))
  jaq)))
  (jae (jap jbq))),?_⟩
 walk_at "rf";refine⟨by omega,by omega,?_⟩;have lT:(past++[st]).length=past.length+1:=by rw[xab];rfl
 refine ja8 (lo:=0) (n:=m.toNat) (fun i σ H2=>∃(o3:Option V) (st':Rws) (past':List Rws),σ=[some (.ref y),some (.ref sd),some (.int m),o3]/\SX [y,pL,sd] H H2/\Kept Y M H2 y pL sd st' past'/\past'++[st']=(past++[st]).take (max 1 (past.length+1-i))) ⟨_,st,past,rfl,SX.refl _ _,hK,?_⟩ ?_ ?_
 ·rw[xbh (by rw[lT];omega)]
 ·rintro i σ H2 hi ⟨o3,st1,past1,rfl,sx,k1,et⟩;obtain⟨pl,ep⟩:=jft et (by rw[lT];omega);obtain⟨srs,es,hh⟩:=k1.hi;have lsr:srs.length=past1.length+1:=by rw[hh.1,xab];rfl
  walk_at "rf";refine⟨_,.inl (SqL.of es),?_⟩;rw[xaa,lsr];refine jbR (fun c=>?_) fun c=>?_;rotate_left
  ·refine⟨sx,st1,past1,k1,?_⟩;rw[et]
   congr 1
   omega
  have np:past1≠[]:=fun z=>by rw[z] at c;exact absurd c (by decide)
  obtain⟨p0,s0,rfl⟩:∃p0 s0,past1=p0++[s0]:=⟨past1.dropLast,past1.getLast np,(xaI np).symm⟩;have l1:(p0++[s0]).length=p0.length+1:=by rw[xab];rfl
  have ns:srs≠[]:=fun z=>by rw[z] at lsr;cases lsr
  obtain⟨s1,a,rfl⟩:∃q0 t0,srs=q0++[t0]:=⟨srs.dropLast,srs.getLast ns,(xaI ns).symm⟩;have ls1:s1.length=p0.length+1:=by
   rw[xab,l1] at lsr;exact Nat.succ.inj lsr
  have ed:((s1++[a]).map V.ref).dropLast=s1.map V.ref:=by
   rw[xaj];exact List.dropLast_concat
  refine⟨.inl ⟨_,SqL.of es⟩,sd,_,.ref a,rfl,rfl,es,?_,?_⟩
  ·rw[xaj,xab];simp
  rw[ed];have sx5:SX [sd] H2 (upd H2 sd (.lst (s1.map V.ref))):=fun b o hb e=>by
   rw[jat (fun z=>hb (by rw[z];simp))];exact e
  have hS:∀x∈[sd],x∈M:=fun x hx=>by rw[xao.mp hx];exact hK.sM
  have y5:=k1.yd.off sx5 hS (fun m hm=>Mut.up (k1.yd.mu m hm) (by intro _ z;cases z)) (fun z=>hK.s1 (xao.mp z).symm) (fun z=>hK.s2 (xao.mp z).symm);have e5:(upd H2 sd (.lst (s1.map V.ref))) sd=some (.lst (s1.map V.ref)):=upd_same;have h5:Hist (rm M (upd H2 sd (.lst (s1.map V.ref)))) s1 (p0++[s0]):=by
   refine⟨by rw[ls1,l1],fun i r s h1 h2=>?_⟩;have il:=(xai.mp h1).1;exact (hh.2 i r s (by rw[xaA il];exact h1) (by rw[xaA (by rw[l1];omega)];exact h2)).keep (sx5.rm hS)
  have s05:SX [y,pL,sd] H (upd H2 sd (.lst (s1.map V.ref))):=sx.trans (sx5.mono fun x hx=>by rw[xao.mp hx];simp);generalize upd H2 sd (.lst (s1.map V.ref))=J5 at y5 e5 h5 s05 |-
  refine⟨by show 1<=sizeLine;decide,fun b nb=>ja4 nb fun J6 j6 k6=>?_⟩;have y6:=y5.keep j6;have st6:=k1.l6;refine⟨M,y,pL,b,st1,p0++[s0],.back,rfl,y6,jed y6.mu k6,k1.l6,?_,fun r fl H7 rn fn s7 y7 e7 ef=>?_⟩
  ·have:=congrArg List.length et;rw[xab,xag,lT] at this;have e1:([st1]:List Rws).length=1:=rfl;omega
  rw[jfU] at y7 ef;refine⟨by decide,fun c1 m1=>ja4 m1 fun J8 j8 k8=>⟨by show 2<=sizeLine;decide,fun c2 m2=>ja4 m2 fun J9 j9 k9=>?_⟩⟩;refine⟨.tuple [.none,.list []],.tuple [.none,.list []],.tup (SqT.of (j9 _ _ (j8 _ _ e7))) (.cons .non (.cons (.lst (SqL.of (j9 _ _ (j8 _ _ ef))) .nil) .nil)),.tup (SqT.of k9) (.cons .non (.cons (.lst (SqL.of (j9 _ _ k8)) .nil) .nil)),by decide,by decide,_,rfl,?_⟩;rw[if_neg (by decide)];have j79:=j8.trans j9;have y9:=y7.keep j79;have sd2:sd∉[y,pL]:=by
   simp only[xaf,xam,or_false,not_or];exact⟨hK.s1,hK.s2⟩
  have m2':∀x∈[y,pL],x∈[y,pL,sd]:=fun x hx=>by
   simp only[xaf,xam,or_false] at hx |-
   rcases hx with h | h
   ·exact .inl h
   ·exact .inr (.inl h)
  have k9':Kept Y M J9 y pL sd s0 p0:=⟨y9,hK.sM,hK.s1,hK.s2,k1.p6 s0 (xat _ (xao.mpr rfl)),fun x hx=>k1.p6 x (xaS _ hx),s1,j79 _ _ (s7 sd _ sd2 (j6 _ _ e5)),h5.keep ((jaQ j6).trans ((s7.rm fun x hx=>hK.mem x (m2' x hx)).trans (jaQ j79)))⟩;refine⟨M,y,pL,s0,p0,rfl,y9,k9'.l6,fun r2 H4 n4 s4 se=>?_⟩;obtain⟨xs,r0,q1,q2,q3,q4⟩:=(k9'.keep s4).seen_last;refine ixL (SqL.of q1) q3 ⟨_,_,(se.keep (jbr _ _)).rds,(q4.keep (jbr _ _)).rds,(jbn _ se.lo).1,(jbn _ se.lo).1,_,rfl,?_⟩;rw[jlT,(jbn _ se.lo).2,if_neg (by decide)];refine⟨s05.trans ((Same.x j6 _).trans ((s7.mono m2').trans (Same.x (j79.trans s4) _))),s0,p0,k9'.keep s4,?_⟩;rw[ep]
  congr 1
  rw[l1] at pl;omega
 ·rintro σ H2 ⟨o3,st',past',rfl,sx,k',et⟩;walk_at "rf";exact q H2 st' past' sx k' et
theorem jee {N:List Addr} (h:∀m∈N,H m=none) (s:Same H H'):Same (rm M H) (rm (N++M) H'):=fun b o e=>jbK (s _ _ (jbi e).1) fun z=>by
 rcases xav.mp z with z | z
 ·have:=(jbi e).1;rw[h b z] at this;cases this
 ·exact (jbi e).2 z
theorem jgu {x dx sL:Addr} (mu:∀m∈M,Mut H m) (nx:H x=none) (ndx:H dx=none) (ne:dx≠x) (n1:upd (upd H dx (.own x)) x (.ins Y dx []) sL=none) (n2:upd (upd H dx (.own x)) x (.ins Y dx []) pL=none) (n3:sL≠pL)
  (sx:SX [x] (upd (upd H dx (.own x)) x (.ins Y dx [])) H') (e1:H' x=some (.ins Y dx (jew sL pL))) (e2:H' sL=some (.lst [])) (e3:H' pL=some (.lst [])):YardAt Y ([x,pL]++M) H' x pL [] []/\Same H H'/\H pL=none/\x≠pL:=by
 have hs:Same H H':=fun b o e=>by
  have bx:b≠x:=jaD e nx;refine sx b o (fun z=>bx (xao.mp z)) ?_;rw[jat bx,jat (jaD e ndx)];exact e
 have xp:x≠pL:=fun z=>by rw[<- z,upd_same] at n2;cases n2
 have xs:x≠sL:=fun z=>by rw[<- z,upd_same] at n1;cases n1
 have pn:H pL=none:=by
  rw[jat (Ne.symm xp)] at n2;by_cases c:pL=dx
  ·rw[c,upd_same] at n2;cases n2
  ·rw[jat c] at n2;exact n2
 have sn:H sL=none:=by
  rw[jat (Ne.symm xs)] at n1;by_cases c:sL=dx
  ·rw[c,upd_same] at n1;cases n1
  ·rw[jat c] at n1;exact n1
 refine⟨⟨by simp,by simp,fun m hm=>?_,dx,sL,[],e1,e3,⟨[],jbK e2 fun z=>?_,.nil⟩,.nil⟩,hs,pn,xp⟩
 ·rcases xav.mp hm with h | h
  ·simp only[xaf,xam,or_false] at h;rcases h with rfl | rfl
   ·exact Mut.is e1
   ·exact Mut.ls e3
  ·exact (mu m h).keep hs
 ·rcases xav.mp z with h | h
  ·simp only[xaf,xam,or_false] at h;rcases h with h | h
   ·exact xs h.symm
   ·exact n3 h
  ·exact (mu sL h).nn sn
theorem YardAt.grow {N:List Addr} {st:Rws} {past:List Rws} (h:YardAt Y M H y pL st past) (s:Same H H') (hN:∀m∈N,H m=none) (mu:∀m∈N,Mut H' m):YardAt Y (N++M) H' y pL st past:=by
 obtain⟨dx,sL,ss,h1,h2,h3,h4⟩:=h.ob;refine⟨xat _ h.yM,xat _ h.pM,fun m hm=>?_,dx,sL,ss,s _ _ h1,s _ _ h2,h3.keep (jee hN s),h4.mono fun _ _ q=>q.keep (jee hN s)⟩;rcases xav.mp hm with hm | hm
 ·exact mu m hm
 ·exact (h.mu m hm).keep s
structure Lw (K:PySem.W.Frag) (Y a:Addr) (ns:List Int) (i:Nat) (nl y pL sd ad:Addr) (H:Hp):Prop where
 ex:∃(H0:Hp) (xs:List Str),SqL K H0 a (ns.map V.int)/\H0 nl=some (.lst (xs.map V.str))/\xs.length=8/\(∀x∈xs,Nam x)/\Same H0 (rm [sd,ad,y,pL] H)
 kp:∃st past,Kept Y [sd,ad,y,pL] H y pL sd st past/\(past++[st])[0]?=some []/\past.length<=i
 ds:∃(drs:List Addr) (Ds:List Deed),H ad=some (.lst (drs.map V.ref))/\All2 (DeedAt (rm [sd,ad,y,pL] H)) drs Ds/\drs.length=i/\∀D∈Ds,D≠.back
 n1:ad≠y
 n2:ad≠pL
 n3:ad≠sd
def lwA (K:PySem.W.Frag) (Y a:Addr) (ns:List Int):L2.St->Hp->Prop:=fun σ H=>∃nl y pL sd ad,σ=[some (.ref a),some (.ref nl),some (.ref y),some (.ref sd),some (.ref ad),none,none,none,none]/\Lw K Y a ns 0 nl y pL sd ad H
def lwB (K:PySem.W.Frag) (Y a:Addr) (ns:List Int):L2.St->Hp->Prop:=fun σ H=>∃(nl y pL sd ad:Addr) (o5 o6 o7:Option V) (n:Nat),σ=[some (.ref a),some (.ref nl),some (.ref y),some (.ref sd),some (.ref ad),o5,o6,o7,none]/\n<=100/\Lw K Y a ns n nl y pL sd ad H
def lwC (Y a:Addr):L2.St->Hp->Prop:=fun σ H=>∃(nl y pL sd ad:Addr) (o5 o6 o7:Option V) (M drs:List Addr) (Ds:List Deed),σ=[some (.ref a),some (.ref nl),some (.ref y),some (.ref sd),some (.ref ad),o5,o6,o7,none]/\YardAt Y M H y pL [] []/\ad∈M/\ad≠y/\ad≠pL/\H ad=some (.lst (drs.map V.ref))/\All2 (DeedAt (rm M H)) drs Ds/\drs.length<=100
def lwD:L2.St->Hp->L2.St->Hp->Prop:=fun σ H σ' H'=>Same H H'/\(σ'=σ\/∃(d:Addr) (x:Str),σ'=σ.set 7 (some (.ref d))/\H' d=some (.tup [.str "drop",.str x]))
theorem Kept.off {S:List Addr} {st:Rws} {past:List Rws} (h:Kept Y M H y pL sd st past) (s:SX S H H') (hS:∀a∈S,a∈M) (mu:∀m∈M,Mut H' m) (n1:y∉S) (n2:pL∉S) (n3:sd∉S):Kept Y M H' y pL sd st past:=by
 obtain⟨srs,e,hh⟩:=h.hi;exact⟨h.yd.off s hS mu n1 n2,h.sM,h.s1,h.s2,h.l6,h.p6,srs,s _ _ n3 e,hh.keep (s.rm hS)⟩
theorem jkC {st:Rws} {past:List Rws} {D:Deed} (nb:D≠.back) (h:(past++[st])[0]?=some []):((step st past D).1.2++[(step st past D).1.1])[0]?=some []/\(step st past D).1.2.length<=past.length+1:=by
 rcases jh8 (st:=st) (past:=past) nb with ⟨_,e⟩ | ⟨i,_,_,e⟩
 ·rw[e];refine⟨?_,by rw[xab];exact xac _⟩;rw[xaA (by rw[xab];exact Nat.succ_pos _)];exact h
 ·rw[e];exact⟨h,xa8 _⟩
theorem jib {l:List Rws} {j:Nat} {p:List Rws} {s:Rws} (hj:1<=j) (e:p++[s]=l.take j) (h:l[0]?=some []):(p++[s])[0]?=some []/\p.length+1<=l.length:=by
 refine⟨?_,?_⟩
 ·rw[e,xba hj];exact h
 ·have:=congrArg List.length e;rw[xab,xag] at this;have e1:([s]:List Rws).length=1:=rfl;omega
theorem ji6 (st:Rws):PyData.eqv (.list ((nmL st).map PyData.str)) (.list [])=st.isEmpty:=by
 cases st with
 | nil=>rfl
 | cons a l=>rfl
theorem jkD {st:Rws} (lo:∀it∈st,Lo it.1):SeqAt.shaped (.list ((nmL st).map PyData.str))=true:=by
 have c:PyData.canLayAll0 ((nmL st).map PyData.str)=true:=jdt fun d hd=>by
  obtain⟨x,hx,rfl⟩:=xaB.mp hd;obtain⟨it,hi,rfl⟩:=xaB.mp hx;rw[PyData.canLay0];exact jlS (lo it hi)
 have e:PyData.depthAll ((nmL st).map PyData.str)<=0:=jc1 fun d hd=>by
  obtain⟨x,hx,rfl⟩:=xaB.mp hd;rw[PyData.depth];exact xac _
 unfold SeqAt.shaped;rw[PyData.canLay0,c,PyData.depth,decide_eq_true (by omega)];rfl
theorem jkE {a b c:Addr} (h1:H c=some (.tup [.ref a,.ref b,.int 0])) (h2:H a=some (.lst [])) (h3:H b=some (.lst [])):Rds K H (.ref c) (jc0 [] 0):=.tup (SqT.of h1) (.cons (.lst (SqL.of h2) .nil) (.cons (.lst (SqL.of h3) .nil) (.cons (.int _) .nil)))
theorem jlU {e:Addr} {ed:FuncData} (T:Tyd K mg t1 t2 cs SE Y) (F:FunD K "law" "law" jeM e ed .none) (dS:jaw P w K mg base CX0 1 "_law_names" ["number"] [] jlB) (dm:jaw P w K mg base CX0 1 "_law_number" ["script","k"] [] (jgk K)) (du:jaW P w K mg base CX0 1 Y "__init__" ["self"] (jhY Y)) (db:jaw P w K mg base CX0 2 "_law_seen" ["yard"] [] (jgr Y)) (De:jaw P w K mg base CX0 4 "_law_put" ["names","number","more"] [] jjy) (dQ:jaw P w K mg base CX0 9 "_law_steps" ["yard","deeds","stood"] [] (jh9 Y)) (dA:jaw P w K mg base CX0 9 "_law_undone" ["yard","stood","many"] [] (jgt Y)) (df:jaw P w K mg base CX0 8 "_law_tried" ["yard","deed"] [] (ji4 Y)):FnOk P w K mg base CX0 10 e ed ["script"] (jiK K):=by
  refine F.ok jjn (fun vs H Q E h=>?_) (fun cdv A outer s H vs Q E hr h=>?_)
  . obtain⟨a,ns,rfl,_⟩:=h
    rfl
  obtain⟨a,ns,rfl,hS,h63,q⟩:=h;have S:=jjn;refine⟨_,(jad (jal (i:=1) S.nd rfl (Or.inl rfl) (jai dS hr.m rfl jaA (jaa (jai dm hr.m rfl jaA (jaa (pv 0) (jaa jab jac jaj) jaf)) jac jaH)))
    (jad (jal (i:=2) S.nd rfl (Or.inl rfl) (jfk du T.mkY T.kpY hr.m rfl T.m_Yard jaA))
    (jad (jal (i:=3) S.nd rfl (Or.inl rfl) (jaN (jaa (jai db hr.m rfl jaA (jaa (pv 2) jac jaf)) jac jaH)))
    (jad (jaR (jam (jch (jfG hr)) (pv 3) (jaN (jaa (ja5 (jaa (jaN jac) (jaa (jaN jac) (jaa jab jac jaj) jci) jci)) jac jaY)) (jar _))
    (jae (jap jbq))
    jaq)
    (jaV (lwA K Y a ns) (jal (i:=4) S.nd rfl (Or.inl rfl) (jaN jac))
    (jaV (lwB K Y a ns) (jbo PassesOwn.never rfl (jaE rfl T.m_range (jaa (jau (je1 rfl) rfl T.m_max boot_max (jaa jab (jaa (jau jaz rfl T.m_len PySem.boot_len (jaa (pv 0) jac jaf)) jac jaH) jaj)) jac jaH)) (jax (i:=5) S.nd rfl (Or.inl rfl))
    (jad (jal (i:=6) S.nd rfl (Or.inl rfl) (jai dm hr.m rfl jaA (jaa (pv 0) (jaa (jah ja9 (jah jav jab (pv 5)) jab) jac jaM) jaf)))
    (jad (jal (i:=7) S.nd rfl (Or.inl rfl) (jai De hr.m rfl jaA (jaa (pv 1) (jaa (jah jas (pv 6) jab) (jaa (jai dm hr.m rfl jaA (jaa (pv 0) (jaa (jah ja9 (jah jav jab (pv 5)) jab) jac jaM) jaf)) jac jaH) jaM) jaf)))
    (jiI lwD (jaR (PW.pt (jdv (jam jbp (jah jaB (pv 6) jab) jab (jar _)) (jdg (jam (jch (jfG hr)) (jak jaC (jak jan (pv 3) (jdF jb7 jab)) jab) (jaN jac) (jar _)))))
    (jae (jal (i:=7) S.nd rfl (Or.inl rfl) (ja5 (jaa ja7 (jaa (jak jan (jak jaC (jak jan (pv 3) (jdF jb7 jab)) jab) (jah jaB (jah jas (pv 6) jab) (jau jaz rfl T.m_len PySem.boot_len (jaa (jak jaC (jak jan (pv 3) (jdF jb7 jab)) jab) jac jaI)))) jac jaI) jaj))))
    jaq)
    (jad (jbT (jeF PySem.F.plainAttrs_list PySem.F.slot_list_append PySem.F.type_list_append jbx (pv 4) (jaa (pv 7) jac jaf)))
    (jae (jaR (PW.pt (jeW (jdw (jcF (jai dQ hr.m rfl jaA (jaa (pv 2) (jaa (jaN (jaa (pv 7) jac jaf)) (jaa (pv 3) jac jaf) jci) jaf)))) (jdu (PW.pt (jdv (jam jbp (jah jaB (pv 6) jab) jab (jar _)) (jdg (jdw (jcF (jai dA hr.m rfl jaA (jaa (pv 2) (jaa (pv 3) (jaa (jah jaB (jah jas (pv 6) jab) jab) jac jaM) jaf) jaf))))))))))
    (jae (jap jbq))
    jaq)))))))
    (jaV (lwC Y a) (jaR (PW.pt (jeW (jdw (jcF (jai dA hr.m rfl jaA (jaa (pv 2) (jaa (pv 3) (jaa (jau jaz rfl T.m_len PySem.boot_len (jaa (pv 3) jac jaf)) jac jaH) jaf) jaf)))) (jdu (jam (jch (jfG hr)) (jai db hr.m rfl jaA (jaa (pv 2) jac jaf)) (ja5 (jaa (jaN jac) (jaa (jaN jac) (jaa jab jac jaj) jci) jci)) (jar _)))))
    (jae (jap jbq))
    jaq)
    (jaV (lwC Y a) (jaR (PW.pt (jeW (jam (jch (jfG hr)) (jai df hr.m rfl jaA (jaa (pv 2) (jaa (ja5 (jaa ja7 jac jaj)) jac jaY) jaf)) (ja5 (jaa jel (jaa (jaN (jaa jbq (jaa jbq (jaa jbq (jaa jbq jac jaj) jaj) jaj) jaj)) jac jci) jaj)) (jar _)) (jdu (jam (jch (jfG hr)) (jai db hr.m rfl jaA (jaa (pv 2) jac jaf)) (ja5 (jaa (jaN jac) (jaa (jaN jac) (jaa jab jac jaj) jci) jci)) (jar _)))))
    (jae (jap jbq))
    jaq)
    (jad (jal (i:=8) S.nd rfl (Or.inl rfl) (jfk du T.mkY T.kpY hr.m rfl T.m_Yard jaA))
    (jad (jbo PassesOwn.never rfl (jcP (jaO ja1 (pv 4) jaJ (jaK jab))) (jax (i:=7) S.nd rfl (Or.inl rfl))
    (jae (jaR (PW.pt (jeW (jam (jch (jfG hr)) (jai df hr.m rfl jaA (jaa (pv 8) (jaa (pv 7) jac jaf) jaf)) (jai df hr.m rfl jaA (jaa (pv 2) (jaa (pv 7) jac jaf) jaf)) (jar _)) (jdu (jam (jch (jfG hr)) (jai db hr.m rfl jaA (jaa (pv 8) jac jaf)) (jai db hr.m rfl jaA (jaa (pv 2) jac jaf)) (jar _)))))
    (jae (jap jbq))
    jaq)))
    (jae (jap jbq)))))))))))),?_⟩
  walk_at "rf";refine⟨a,ns,0,rfl,hS,h63,by decide,by decide,fun n0 H1 s1 m0 _=>⟨n0,rfl,m0,fun nl xs H2 nn s2 e2 lx hx=>?_⟩⟩;refine fun x dx nx ndx ne=>⟨x,dx,rfl,upd_same,fun sL pL H3 n1 n2 n3 sx e1 e3 e4=>⟨rfl,?_⟩⟩;obtain⟨Yd,s3,pn,xp⟩:=jgu (M:=[]) (fun _ z=>nomatch z) nx ndx ne n1 n2 n3 sx e1 e3 e4;refine⟨_,x,pL,[],[],rfl,Yd,by decide,fun r H4 rn s4 se=>⟨by show 1<=sizeLine;decide,fun sd m1=>ja4 m1 fun J1 j1 k1=>⟨by decide,fun p1 m2=>ja4 m2 fun J2 j2 k2=>⟨by decide,fun p2 m3=>ja4 m3 fun J3 j3 k3=>⟨by show 3<=sizeLine;decide,fun p3 m4=>ja4 m4 fun J4 j4 k4=>⟨by show 1<=sizeLine;decide,fun p4 m5=>ja4 m5 fun J5 j5 k5=>?_⟩⟩⟩⟩⟩⟩;have j15:=j2.trans (j3.trans (j4.trans j5));have so:=jbn (st:=[]) 0 (fun _ z=>nomatch z);refine⟨.list [jc0 [] 0],.list [jc0 [] 0],.lst (SqL.of (j15 _ _ k1)) (.cons ((se.keep ((jbr _ _).trans (j1.trans j15))).rds) .nil),.lst (SqL.of k5) (.cons (jkE (j5 _ _ k4) (j5 _ _ (j4 _ _ (j3 _ _ k2))) (j5 _ _ (j4 _ _ k3))) .nil),by decide,by decide,_,rfl,?_⟩;rw[if_neg (by decide)];refine⟨by decide,fun ad m6=>?_,?_⟩
  . refine ja4 m6 fun J6 j6 k6=>?_
    have s46:=j1.trans (j15.trans j6);have adn:H4 ad=none:=(j1.trans j15).noneN m6;have sn:∀m∈[sd,ad],H4 m=none:=fun m hm=>by
      simp only[xaf,xam,or_false] at hm;rcases hm with rfl | rfl
      . exact m1
      . exact adn
    have ksd:=j6 _ _ (j15 _ _ k1);have mu:∀m∈[sd,ad],Mut J6 m:=fun m hm=>by
      simp only[xaf,xam,or_false] at hm;rcases hm with rfl | rfl
      . exact Mut.ls ksd
      . exact Mut.ls k6
    have yd:YardAt Y [sd,ad,x,pL] J6 x pL [] []:=(Yd.keep s4).grow (N:=[sd,ad]) s46 sn mu;have ne4:∀{m b:Addr},H4 m=none->H4 b≠none->m≠b:=fun h1 h2 z=>h2 (by rw[<- z];exact h1);have yn:=(Yd.keep s4).al x (Yd.yM);have pn':=(Yd.keep s4).al pL (Yd.pM);refine⟨nl,x,pL,sd,ad,rfl,⟨H2,xs,(s1.trans s2).seq hS,e2,lx,hx,?_⟩,⟨[],[],⟨yd,by simp,ne4 m1 yn,ne4 m1 pn',by decide,(fun _ z=>nomatch z),[r],ksd,rfl,fun i r' s' h1 h2=>?_⟩,rfl,xac _⟩,⟨[],[],k6,.nil,rfl,fun _ z=>nomatch z⟩,ne4 adn yn,ne4 adn pn',fun z=>?_⟩
    . have a1:Same H2 (rm [x,pL] H3):=fun b o hb=>jbK (s3 _ _ hb) fun z=>by
        simp only[xaf,xam,or_false] at z;rcases z with rfl | rfl
        . rw[nx] at hb
          cases hb
        . rw[pn] at hb
          cases hb
      exact a1.trans ((jaQ s4).trans (jee (N:=[sd,ad]) sn s46))
    . cases i with
      | zero =>
        cases h1;cases h2;exact se.keep (jee (N:=[sd,ad]) sn s46)
      | succ i=>cases h1
    . rw[z,j15 _ _ k1] at m6
      cases m6
  clear se rn k5 k4 k3 k2 k1 so j15 j5 j4 j3 j2 j1 m1 m2 m3 m4 m5 s4 Yd s3 pn xp e1 e3 e4 sx n1 n2 n3 ne nx ndx e2 hx lx s2 s1 nn hS;rintro σ H6 ⟨nl,y,pL,sd,ad,rfl,hL⟩;obtain⟨H0,xs,hS0,hn0,lx,hx,b0⟩:=hL.ex;have sq6:SqL K H6 a (ns.map V.int):=(b0.trans (jbr _ _)).seq hS0;walk_at "rf";have lns:(ns.map V.int).length=ns.length:=xaa _;refine⟨⟨_,.inl sq6,?_⟩,?_⟩
  . rw[lns]
    obtain⟨m,em,m1,m63⟩:∃m:Nat,(if ((ns.length:Nat):Int)>12 then ((ns.length:Nat):Int) else 12)=(m:Int)/\12<=m/\m<=63:=by
      by_cases c:ns.length>12
      . exact⟨ns.length,by rw[if_pos (by omega)],by omega,h63⟩
      . exact⟨12,by rw[if_neg (by omega)];rfl,by omega,by omega⟩
    rw[em];refine⟨by omega,by omega,?_⟩;rw[xbx];refine ja8 (lo:=0) (n:=m) (fun i σ H2=>∃o5 o6 o7:Option V,σ=[some (.ref a),some (.ref nl),some (.ref y),some (.ref sd),some (.ref ad),o5,o6,o7,none]/\Lw K Y a ns i nl y pL sd ad H2) ⟨_,_,_,rfl,hL⟩ ?_ ?_;rotate_left
    . rintro σ H2 ⟨o5,o6,o7,rfl,h⟩
      exact⟨nl,y,pL,sd,ad,o5,o6,o7,m,rfl,by omega,h⟩
    clear hL b0 sq6 hS0 hn0 hx lx;rintro i σ H2 hi ⟨o5,o6,o7,rfl,hL⟩;obtain⟨H0,xs,hS0,hn0,lx,hx,b0⟩:=hL.ex;obtain⟨st,past,hK,h0,lp⟩:=hL.kp;obtain⟨drs,Ds,ea,hD,ld,nbk⟩:=hL.ds;have b2:=b0.trans (jbr _ _);walk_at "rf";refine⟨.o (by decide) (by decide),.o (by omega) (by omega),a,ns,_,rfl,b2.seq hS0,h63,by omega,by omega,fun n H3 s3 n0 _=>?_⟩;refine⟨n,rfl,by decide,.o (by decide) (by decide),.o (by decide) (by decide),.o (by omega) (by omega),a,ns,_,rfl,(b2.trans s3).seq hS0,h63,by omega,by omega,fun m' H4 s4 m0 _=>?_⟩;have s24:=s3.trans s4;have mu4:∀x∈[sd,ad,y,pL],Mut H4 x:=fun x hx=>(hK.yd.mu x hx).keep s24;refine⟨[sd,ad,y,pL],nl,xs,_,m',rfl,mu4,(b2.trans s24) _ _ hn0,lx,hx,xaD n0 (by decide),m0,fun d D H5 s5 dd ⟨px,pps,pg,eD⟩=>?_⟩;have s25:=s24.trans s5;have k5:=hK.keep s25;refine⟨?_,?_⟩
    . obtain⟨ys,r,z1,z2,z3,z4⟩:=k5.seen_last
      obtain⟨l1,l2,ts,y1,y2,y3,y4⟩:=z4.ex;have q1:=SqL.of (K:=K) z1;have q2:=SqT.of (K:=K) (jbi y1).1;have q3:=SqL.of (K:=K) (jbi y2).1;walk_at "rf";refine⟨by decide,jbR (fun c=>?_) fun c=>⟨Same.refl _,.inl rfl⟩⟩;refine ixL q1 z3 (ixT q2 (i:=0) rfl ⟨by decide,fun p hp=>ja4 hp fun J j k=>?_⟩);refine⟨_,_,.lst (j.seq q3) (jeU _),.lst (SqL.of k) .nil,jkD z4.lo,by decide,_,rfl,?_⟩;rw[jlT,ji6];cases hst:st.isEmpty with
      | true =>
        rw[if_neg (by decide)];exact⟨j,.inl rfl⟩
      | false =>
        rw[if_pos (by decide)];have hne:0<st.length:=by
          cases st with
          | nil=>cases hst
          | cons _ _=>exact Nat.succ_pos _
        have a0:=xap (n / 4) (show ((st.length:Nat):Int)≠0 by omega);have a1:=xal (n / 4) (show 0<((st.length:Nat):Int) by omega);obtain⟨k',ek⟩:∃k':Nat,n / 4 % ((st.length:Nat):Int)=(k':Int):=⟨(n / 4 % ((st.length:Nat):Int)).toNat,by omega⟩;have kl:k'<(nmL st).length:=by unfold nmL;rw[xaa];omega
        refine ixL (j.seq q1) z3 (ixT (j.tup q2) (i:=0) rfl ⟨by decide,.o (by decide) (by decide),ixL (j.seq q1) z3 (ixT (j.tup q2) (i:=0) rfl ⟨_,rfl,_,.inl (j.seq q3),?_⟩)⟩);rw[jh2,ek];refine⟨by omega,ixL (j.seq q3) (v:=.str (nmL st)[k']) (jaS (by unfold stV;rw[xak,xae kl];rfl)) ⟨by show 2<=sizeLine;decide,fun b nb=>?_⟩⟩;exact⟨j.trans (Same.new nb _),.inr ⟨b,_,rfl,upd_same⟩⟩
    . rintro σ' H6 ⟨s6,h6⟩
      have s26:=s25.trans s6;have k6:=hK.keep s26;obtain⟨d',D',rfl,dd',nb'⟩:∃(d':Addr) (D':Deed),σ'=[some (V.ref a),some (V.ref nl),some (V.ref y),some (V.ref sd),some (V.ref ad),some (V.int (0+(i:Int))),some (V.int n),some (.ref d'),none]/\DeedAt (rm [sd,ad,y,pL] H6) d' D'/\D'≠.back:=by
        rcases h6 with rfl | ⟨d',x',rfl,e'⟩
        . exact⟨d,D,rfl,dd.keep (jaQ s6),by rw[eD];exact fun z=>nomatch z⟩
        . exact⟨d',.drop x',rfl,jed k6.yd.mu e',fun z=>nomatch z⟩
      have ea6:=s26 _ _ ea;have b6:=b0.trans (jaQ s26);have hD6:=hD.mono fun _ _ z=>z.keep (jaQ s26);clear h6 dd eD s6 k5 s25 s5 mu4 s24 s4 s3;walk_at "rf";refine⟨.inl ⟨_,SqL.of ea6⟩,ad,_,_,rfl,rfl,ea6,?_,?_⟩
      . rw[xaa,ld]
        exact jaP (by omega)
      have sx7:SX [ad] H6 (upd H6 ad (.lst (drs.map V.ref++[.ref d']))):=fun b o hb e=>by
        rw[jat (fun z=>hb (by rw[z];simp))];exact e
      have hS7:∀x∈[ad],x∈[sd,ad,y,pL]:=fun x hx=>by rw[xao.mp hx];simp
      have rm7:=sx7.rm hS7;have k7:=k6.off sx7 hS7 (fun x hx=>Mut.up (k6.yd.mu x hx) (by intro _ z;cases z)) (fun z=>hL.n1 (xao.mp z).symm) (fun z=>hL.n2 (xao.mp z).symm) (fun z=>hL.n3 (xao.mp z).symm);have e7:(upd H6 ad (.lst (drs.map V.ref++[.ref d']))) ad=some (.lst ((drs++[d']).map V.ref)):=by rw[upd_same,xaj];rfl
      generalize upd H6 ad (.lst (drs.map V.ref++[.ref d']))=H7 at sx7 rm7 k7 e7 |-
      refine⟨by show 1<=sizeLine;decide,fun dl m8=>ja4 m8 fun J8 j8 i8=>?_⟩;have k8:=k7.keep j8;have dd8:=dd'.keep (rm7.trans (jaQ j8));have b8:=b6.trans (rm7.trans (jaQ j8));have hD8:All2 (DeedAt (rm [sd,ad,y,pL] J8)) (drs++[d']) (Ds++[D']):=(hD6.mono fun _ _ z=>z.keep (rm7.trans (jaQ j8))).app (.cons dd8 .nil);have e8:=j8 _ _ e7;have nbk':∀D∈Ds++[D'],D≠.back:=fun D hD=>(xav.mp hD).elim (nbk D) fun z=>by rw[xao.mp z];exact nb'
      refine⟨[sd,ad,y,pL],y,pL,sd,dl,d',st,past,D',rfl,k8,by omega,i8,(fun z=>(k7.yd.mu dl z).nn m8),dd8,nb',fun H9 s9 k9=>⟨_,rfl,?_⟩⟩;obtain⟨h0',lp'⟩:=jkC nb' h0;have ad9:ad∉[y,pL,sd]:=by
        simp only[xaf,xam,or_false,not_or];exact⟨hL.n1,hL.n2,hL.n3⟩
      have fin:∀(H':Hp) (st':Rws) (past':List Rws),SX [y,pL,sd] J8 H'->Kept Y [sd,ad,y,pL] H' y pL sd st' past'->(past'++[st'])[0]?=some []->past'.length<=i+1->Lw K Y a ns (i+1) nl y pL sd ad H':=fun H' st' past' s' k' z1 z2=>⟨⟨H0,xs,hS0,hn0,lx,hx,b8.trans (s'.rm k8.mem)⟩,⟨st',past',k',z1,z2⟩,⟨drs++[d'],Ds++[D'],s' ad _ ad9 e8,hD8.mono fun _ _ z=>z.keep (s'.rm k8.mem),by rw[xab,ld];rfl,nbk'⟩,hL.n1,hL.n2,hL.n3⟩;rw[if_neg (by decide)];refine⟨by decide,jbR (fun c=>?_) fun c=>?_⟩
      . have u0:=xap (n / 16) (show (4:Int)≠0 by decide)
        have u1:=xal (n / 16) (show (0:Int)<4 by decide);refine⟨by decide,.o (by decide) (by decide),by decide,[sd,ad,y,pL],y,pL,sd,_,_,_,rfl,k9,by omega,u0,by omega,fun H10 st2 past2 s10 k10 et=>⟨_,rfl,?_⟩⟩;obtain⟨w1,w2⟩:=jib (Nat.le_max_left _ _) et h0';rw[if_neg (by decide)];refine fin H10 st2 past2 (s9.trans s10) k10 w1 ?_;rw[xab] at w2;have e1:([(step st past D').1.1]:List Rws).length=1:=rfl;omega
      . exact fin H9 _ _ s9 k9 h0' (by omega)
  clear hL b0 sq6 hS0 hn0 hx lx;rintro σ H6 ⟨nl,y,pL,sd,ad,o5,o6,o7,n,rfl,n100,hL⟩;obtain⟨st,past,hK,h0,lp⟩:=hL.kp;obtain⟨drs,Ds,ea,hD,ld,nbk⟩:=hL.ds;obtain⟨ys,r,z1,z2,z3,z4⟩:=hK.seen_last;walk_at "rf";refine⟨⟨_,.inl (SqL.of z1),[sd,ad,y,pL],y,pL,sd,st,past,_,rfl,hK,by omega,by omega,by omega,fun H7 st' past' s7 k7 et=>⟨_,rfl,?_⟩⟩,?_⟩
  . rw[if_neg (by decide)]
    have ez:past'=[]/\st'=[]:=by
      rw[z2,xbx,xbv] at et;obtain⟨pl,ep⟩:=jft et (by rw[xab];exact Nat.le_add_left 1 _);have p0:past'=[]:=List.eq_nil_of_length_eq_zero (by omega);refine⟨p0,?_⟩;obtain⟨w1,_⟩:=jib (xac _) et h0;rw[p0] at w1;exact Option.some.inj w1
    obtain⟨rfl,rfl⟩:=ez;have ad9:ad∉[y,pL,sd]:=by
      simp only[xaf,xam,or_false,not_or];exact⟨hL.n1,hL.n2,hL.n3⟩
    refine⟨[sd,ad,y,pL],y,pL,[],[],rfl,k7.yd,by decide,fun r2 H8 n8 s8 se=>⟨by decide,fun p1 m1=>ja4 m1 fun J1 j1 i1=>⟨by decide,fun p2 m2=>ja4 m2 fun J2 j2 i2=>⟨by show 3<=sizeLine;decide,fun p3 m3=>ja4 m3 fun J3 j3 i3=>?_⟩⟩⟩⟩;refine⟨jc0 [] 0,jc0 [] 0,(se.keep ((jbr _ _).trans (j1.trans (j2.trans j3)))).rds,jkE i3 (j3 _ _ (j2 _ _ i1)) (j3 _ _ i2),by decide,by decide,_,rfl,?_⟩;rw[if_neg (by decide)];have sj:=s8.trans (j1.trans (j2.trans j3));exact⟨nl,y,pL,sd,ad,o5,o6,o7,[sd,ad,y,pL],drs,Ds,rfl,k7.yd.keep sj,by simp,hL.n1,hL.n2,sj _ _ (s7 ad _ ad9 ea),hD.mono fun _ _ z=>z.keep ((s7.rm hK.mem).trans (jaQ sj)),by omega⟩
  clear hL hK hD nbk ea z1 z2 z3 z4 h0 lp;rintro σ H6 ⟨nl,y,pL,sd,ad,o5,o6,o7,M,drs,Ds,rfl,hY,aM,n1,n2,ea,hD,ld⟩;walk_at "rf";refine⟨by show 1<=sizeLine;decide,fun b m0=>?_,?_⟩
  . refine ja4 m0 fun J0 j0 i0=>?_
    have y0:=hY.keep j0;refine⟨M,y,pL,b,[],[],.back,rfl,y0,jed y0.mu i0,by decide,by decide,fun r fl H7 rn fn s7 y7 e7 ef=>⟨by show 4<=sizeLine;decide,fun c1 m1=>ja4 m1 fun J1 j1 i1=>⟨by show 2<=sizeLine;decide,fun c2 m2=>ja4 m2 fun J2 j2 i2=>?_⟩⟩⟩;have y7':YardAt Y M H7 y pL [] []:=y7;have ef':H7 fl=some (.lst [.bl false,.bl false,.bl false,.bl true]):=ef;have j12:=j1.trans j2;refine⟨.tuple [.none,.list [.bool false,.bool false,.bool false,.bool true]],.tuple [.none,.list [.bool false,.bool false,.bool false,.bool true]],.tup (SqT.of (j12 _ _ e7)) (.cons .non (.cons (.lst (SqL.of (j12 _ _ ef')) (.cons (.bl _) (.cons (.bl _) (.cons (.bl _) (.cons (.bl _) .nil))))) .nil)),.tup (SqT.of i2) (.cons .non (.cons (.lst (SqL.of (j2 _ _ i1)) (.cons (.bl _) (.cons (.bl _) (.cons (.bl _) (.cons (.bl _) .nil))))) .nil)),by decide,by decide,_,rfl,?_⟩;rw[if_neg (by decide)];have ad9:ad∉[y,pL]:=by
      simp only[xaf,xam,or_false,not_or];exact⟨n1,n2⟩
    have hM:∀x∈[y,pL],x∈M:=fun x hx=>by
      simp only[xaf,xam,or_false] at hx;rcases hx with rfl | rfl
      . exact hY.yM
      . exact hY.pM
    refine⟨M,y,pL,[],[],rfl,y7'.keep j12,by decide,fun r2 H8 n8 s8 se=>⟨by decide,fun p1 q1=>ja4 q1 fun J3 j3 i3=>⟨by decide,fun p2 q2=>ja4 q2 fun J4 j4 i4=>⟨by show 3<=sizeLine;decide,fun p3 q3=>ja4 q3 fun J5 j5 i5=>?_⟩⟩⟩⟩;refine⟨jc0 [] 0,jc0 [] 0,(se.keep ((jbr _ _).trans (j3.trans (j4.trans j5)))).rds,jkE i5 (j5 _ _ (j4 _ _ i3)) (j5 _ _ i4),by decide,by decide,_,rfl,?_⟩;rw[if_neg (by decide)];have sj:=j12.trans (s8.trans (j3.trans (j4.trans j5)));exact⟨nl,y,pL,sd,ad,o5,o6,o7,M,drs,Ds,rfl,y7'.keep sj,aM,n1,n2,sj _ _ (s7 ad _ ad9 (j0 _ _ ea)),hD.mono fun _ _ z=>z.keep ((jaQ j0).trans ((s7.rm hM).trans (jaQ sj))),ld⟩
  clear hY hD aM n1 n2 ea ld;rintro σ H6 ⟨nl,y,pL,sd,ad,o5,o6,o7,M,drs,Ds,rfl,hY,aM,n1,n2,ea,hD,ld⟩;walk_at "rf";refine fun x dx nx ndx ne=>⟨x,dx,rfl,upd_same,fun sL p2 H3 n3 n4 n5 sx e1 e3 e4=>⟨rfl,?_⟩⟩;obtain⟨Yd,s3,pn,xp⟩:=jgu hY.mu nx ndx ne n3 n4 n5 sx e1 e3 e4;have hN:∀m∈[x,p2],H6 m=none:=fun m hm=>by
    simp only[xaf,xam,or_false] at hm;rcases hm with rfl | rfl
    . exact nx
    . exact pn
  have y3:YardAt Y ([x,p2]++M) H3 y pL [] []:=hY.grow s3 hN fun m hm=>Yd.mu m (xaS _ hm);have hD3:=hD.mono fun _ _ z=>z.keep (jee hN s3);have ny:∀{b:Addr},H6 b≠none->x≠b/\p2≠b:=fun h=>⟨fun z=>h (by rw[<- z];exact nx),fun z=>h (by rw[<- z];exact pn)⟩;obtain⟨xy,py⟩:=ny (hY.al y hY.yM);obtain⟨xp',pp⟩:=ny (hY.al pL hY.pM);walk_at "rf";refine⟨ad,_,rfl,SqL.of (s3 _ _ ea),fun sl m0=>?_⟩;rw[show jeD (drs.map V.ref) none (some 8)=(drs.map V.ref).take 8 from jbm (f:=8),<- xaP];refine ja4 m0 fun J0 j0 i0=>⟨sl,rfl,⟨_,SqL.of i0⟩,?_⟩;have y0:=y3.keep j0;have Y0:=Yd.keep j0;have hD0:=(hD3.mono fun _ _ z=>z.keep (jaQ j0)).take 8;have slM:sl∉[x,p2]++M:=fun z=>(Yd.mu sl z).nn m0;have ld0:(drs.take 8).length<=8:=by rw[xag];omega
  generalize drs.take 8=drs',Ds.take 8=Ds' at hD0 ld0 i0;clear e1 e3 e4 sx n3 n4 n5 hD3 hD y3 Yd;generalize hM2:[x,p2]++M=M2 at *
  have mA:∀b∈[x,p2],b∈M2:=fun b hb=>by rw[<- hM2];exact xaS _ hb
  have mB:∀b∈[y,pL],b∈M2:=fun b hb=>by
    simp only[xaf,xam,or_false] at hb;rcases hb with rfl | rfl
    . exact y0.yM
    . exact y0.pM
  refine jdI (K:=K) (a:=sl) (xs:=drs'.map V.ref) (fun i σ H2=>∃(o7:Option V) (st:Rws) (past:List Rws),σ=[some (.ref a),some (.ref nl),some (.ref y),some (.ref sd),some (.ref ad),o5,o6,o7,some (.ref x)]/\Same (rm M2 J0) (rm M2 H2)/\YardAt Y M2 H2 x p2 st past/\YardAt Y M2 H2 y pL st past/\st.length<=6/\(∀s∈past,s.length<=6)/\past.length<=i) ⟨_,[],[],rfl,Same.refl _,Y0,y0,by decide,(fun _ z=>nomatch z),xac _⟩ (fun i σ H2 _ ⟨o7,st,past,_,s2,_⟩=>SqL.of (jbi (s2 _ _ (jbK i0 slM))).1) ?_ ?_
  . rintro i v σ H2 hi ⟨o7,st,past,rfl,s2,ya,yb,l6,p6,lp⟩
    rw[xak] at hi;obtain⟨d,hd,rfl⟩:=xaW.mp hi;have il:=(xai.mp hd).1;obtain⟨D,_,dd⟩:=hD0.getA hd;have dd2:=dd.keep s2;obtain⟨l6',p6'⟩:=jjA (D:=D) l6 p6;have lp':(step st past D).1.2.length<=past.length+1:=by
      cases D with
      | put x ps g =>
        cases e:jbs st x g with
        | some i=>rw[jfR e];exact xa8 _
        | none=>rw[jfQ e,xab];exact xac _
      | drop x =>
        by_cases c:inN x st=true
        . rw[jfS c,xab]
          exact xac _
        . rw[jfT c]
          exact xa8 _
      | back =>
        by_cases c:past=[]
        . subst c
          exact xa8 _
        . obtain⟨p0,s0,rfl⟩:∃p0 s0,past=p0++[s0]:=⟨past.dropLast,past.getLast c,(xaI c).symm⟩
          rw[jfU,xab];show p0.length<=p0.length+1+1;omega
    walk_at "rf";refine⟨M2,x,p2,d,st,past,D,rfl,ya,dd2,l6,by omega,fun r fl H7 rn fn s7 y7 e7 ef=>?_⟩;have no2:∀{u v z:Addr},z≠u->z≠v->z∉[u,v]:=fun h1 h2=>by
      simp only[xaf,xam,or_false,not_or];exact⟨h1,h2⟩
    have yb7:=yb.off s7 mA y7.mu (no2 (Ne.symm xy) (Ne.symm py)) (no2 (Ne.symm xp') (Ne.symm pp));have rs7:=s7.rm mA;have rM:r∉[y,pL]:=fun z=>(yb.mu r (mB r z)).nn rn;have fM:fl∉[y,pL]:=fun z=>(yb.mu fl (mB fl z)).nn fn;refine⟨M2,y,pL,d,st,past,D,rfl,yb7,dd2.keep rs7,l6,by omega,fun r' fl' H8 rn' fn' s8 y8 e8 ef8=>?_⟩;have ya8:=y7.off s8 mB y8.mu (no2 xy xp') (no2 py pp);have rs8:=s8.rm mB;have fo:SeqAt.shaped (.tuple [.none,.list ((flg (step st past D).2).map PyData.bool)])=true/\PyData.eqv (.tuple [.none,.list ((flg (step st past D).2).map PyData.bool)]) (.tuple [.none,.list ((flg (step st past D).2).map PyData.bool)])=true:=by
      have b:=jgs (flg (step st past D).2);have c1:=SeqAt.canLay_of_shaped b;have d1:=SeqAt.depth_of_shaped b;have d0:PyData.depthAll ((flg (step st past D).2).map PyData.bool)<=0:=jc1 fun d hd=>by
        obtain⟨b,_,rfl⟩:=xaB.mp hd;rw[PyData.depth];exact xac _
      have c:PyData.canLay0 (.tuple [.none,.list ((flg (step st past D).2).map PyData.bool)])=true:=by
        simp only[PyData.canLay0,PyData.canLayAll0] at c1 |-
        rw[c1];rfl
      refine⟨?_,SeqAt.eqv_refl _ c⟩;unfold SeqAt.shaped;rw[c,decide_eq_true (by simp only[PyData.depth,PyData.depthAll];omega)];rfl
    refine⟨_,_,.tup (SqT.of (s8 r _ rM e7)) (.cons .non (.cons (.lst (SqL.of (s8 fl _ fM ef)) (jde _)) .nil)),.tup (SqT.of e8) (.cons .non (.cons (.lst (SqL.of ef8) (jde _)) .nil)),fo.1,fo.1,_,rfl,?_⟩;rw[jlT,fo.2,if_neg (by decide)];refine⟨M2,x,p2,_,_,rfl,ya8,l6',fun r2 H9 n9 s9 se=>⟨M2,y,pL,_,_,rfl,y8.keep s9,l6',fun r3 H10 n10 s10 se'=>?_⟩⟩;refine⟨_,_,(se.keep ((jbr _ _).trans s10)).rds,(se'.keep (jbr _ _)).rds,(jbn _ se.lo).1,(jbn _ se.lo).1,_,rfl,?_⟩;rw[jlT,(jbn _ se.lo).2,if_neg (by decide)];have sf:=s9.trans s10;exact⟨s2.trans (rs7.trans (rs8.trans (jaQ sf))),_,_,ya8.keep sf,y8.keep sf,l6',p6',by omega⟩
  . rintro σ H2 ⟨o7,st,past,rfl,_⟩
    walk_at "rf";exact q _
end
def xcOk (K:PySem.W.Frag) (C:Addr):Bool:=(PySem.W.clsIn K C).isSome&&PySem.W.findIn K (.ref C) "__getattribute__"==some (some (.builtin "BaseException.__getattribute__"))&&PySem.W.findIn K (.ref C) "__getattr__"==some none
 && PySem.W.subIn K (.ref C) (.type "BaseException")==some true&&PySem.W.findIn K (.ref C) "__class__"==some (some (.builtin "object.__class__"))&&PySem.W.specialIn K (.builtin "object.__class__") "__get__"==some (some (.builtin "getset_descriptor.__get__"))
 && PySem.W.takesIn K (.builtin "object.__class__")==some true&&PySem.W.mroIn K C (.type "object")==some true
theorem xcOk.to {K:PySem.W.Frag} {C:Addr} (h:xcOk K C=true):XCls K C:=by
 unfold xcOk at h;simp only[xaJ,beq_iff_eq] at h;obtain⟨⟨⟨⟨⟨⟨⟨h1,h2⟩,h3⟩,h4⟩,h5⟩,h6⟩,h7⟩,h8⟩:=h;exact⟨h1,h2,h3,h4,h5,h6,h7,h8⟩
def clsY (K:PySem.W.Frag) (S:Addr) (cs:List Addr):Bool:=((List.range 4).all fun i=>xcOk K (cs.getD i 0)&&PySem.W.exmOne K (.ref (cs.getD i 0)) (.ref S)==some true)&&(List.range 4).all fun i=>(List.range 4).all fun j=>PySem.W.kitOne K (.ref (cs.getD i 0)) (.ref (cs.getD j 0))==some (decide (i=j))
theorem clsY.to {K:PySem.W.Frag} {cs:List Addr} (h:clsY K S cs=true):(∀i,i<4->XCls K (cs.getD i 0))/\(∀i,i<4->PySem.W.exmOne K (.ref (cs.getD i 0)) (.ref S)=some true)/\∀i j,i<4->j<4->PySem.W.kitOne K (.ref (cs.getD i 0)) (.ref (cs.getD j 0))=some (decide (i=j)):=by
 unfold clsY at h;rw[xaJ,xaR,xaR] at h;refine⟨fun i hi=>?_,fun i hi=>?_,fun i j hi hj=>?_⟩
 ·have z:=h.1 i (xaZ.mpr hi);rw[xaJ] at z;exact xcOk.to z.1
 ·have z:=h.1 i (xaZ.mpr hi);rw[xaJ] at z;exact beq_iff_eq.mp z.2
 ·exact beq_iff_eq.mp (xaR.mp (h.2 i (xaZ.mpr hi)) j (xaZ.mpr hj))
def yardOk (K:PySem.W.Frag) (C:Addr):Bool:=PySem.W.plainGet K C Str.empty&&PySem.W.hasDictIn K C&&PySem.W.plainOver K C&&PySem.W.findIn K (.ref C) "__setattr__"==some (some (.builtin "object.__setattr__"))&&PySem.W.findIn K (.ref C) "standing"==some none&&PySem.W.findIn K (.ref C) "past"==some none&&PySem.W.makesIn K C&&PySem.W.keepIn K (.ref C)
theorem yardOk.to {K:PySem.W.Frag} {C:Addr} (h:yardOk K C=true):Cls K C/\NoAttr K C "standing"/\NoAttr K C "past"/\PySem.W.makesIn K C=true/\PySem.W.keepIn K (.ref C)=true:=by
 unfold yardOk at h;simp only[xaJ,beq_iff_eq] at h;obtain⟨⟨⟨⟨⟨⟨⟨h1,h2⟩,h3⟩,h4⟩,h5⟩,h6⟩,h7⟩,h8⟩:=h;exact⟨⟨h1,h2,h3,h4⟩,h5,h6,h7,h8⟩
@[elab_as_elim] theorem len1 {P:List Value->Prop} (us:List Value) (hl:us.length=1) (h:∀a,P [a]):P us:=by
  cases us with
  | nil=>exact absurd hl (by decide)
  | cons a r =>
    cases r with
    | nil=>exact h a
    | cons b r=>exact absurd (Nat.succ.inj hl) (Nat.succ_ne_zero _)
@[elab_as_elim] theorem len2 {P:List Value->Prop} (us:List Value) (hl:us.length=2) (h:∀a0 a1,P [a0,a1]):P us:=by
 cases us with
 | nil=>exact absurd hl (by decide)
 | cons a0 r=>exact len1 (P:=fun r=>P (a0::r)) r (Nat.succ.inj hl) fun a1=>h a0 a1
@[elab_as_elim] theorem len3 {P:List Value->Prop} (us:List Value) (hl:us.length=3) (h:∀a0 a1 a2,P [a0,a1,a2]):P us:=by
 cases us with
 | nil=>exact absurd hl (by decide)
 | cons a0 r=>exact len2 (P:=fun r=>P (a0::r)) r (Nat.succ.inj hl) fun a1 a2=>h a0 a1 a2
@[elab_as_elim] theorem len4 {P:List Value->Prop} (us:List Value) (hl:us.length=4) (h:∀a0 a1 a2 a3,P [a0,a1,a2,a3]):P us:=by
 cases us with
 | nil=>exact absurd hl (by decide)
 | cons a0 r=>exact len3 (P:=fun r=>P (a0::r)) r (Nat.succ.inj hl) fun a1 a2 a3=>h a0 a1 a2 a3
@[elab_as_elim] theorem len5 {P:List Value->Prop} (us:List Value) (hl:us.length=5) (h:∀a0 a1 a2 a3 a4,P [a0,a1,a2,a3,a4]):P us:=by
 cases us with
 | nil=>exact absurd hl (by decide)
 | cons a0 r=>exact len4 (P:=fun r=>P (a0::r)) r (Nat.succ.inj hl) fun a1 a2 a3 a4=>h a0 a1 a2 a3 a4
inductive AtK (K:PySem.W.Frag) (x:Str) (st:Stmt):Prop
 | mk (f:Addr) (oc kV dc pm cd ct:Value) (od an:Option Addr) (sl:Array (Option Value)) (a:PySem.W.nsIn K mainGlobals x=some (some (.ref f))) (l:K.lookup f=some ⟨oc,od,.func (PySem.W.fnOf x x (jby st) (jaX st) (jag st) .none kV dc pm an cd ct),sl⟩) (c:PySem.W.codeIn K cd x=true) (k:PySem.W.keepIn K (.ref f)=true)
local macro_rules | `(tactic| walk_at "bn") => `(tactic| first | exact fun _ _ _ _ _ _ us hl => len1 us hl fun _ => rfl | exact fun _ _ _ _ _ _ us hl => len2 us hl fun _ _ => rfl | exact fun _ _ _ _ _ _ us hl => len3 us hl fun _ _ _ => rfl | exact fun _ _ _ _ _ _ us hl => len4 us hl fun _ _ _ _ => rfl | exact fun _ _ _ _ _ _ us hl => len5 us hl fun _ _ _ _ _ => rfl)
theorem AtK.go {K:PySem.W.Frag} {h:Heap} {mg:Str->Option Value} {x:Str} {st:Stmt} {ps:List Str} (H:AtK K x st) (X:K.In h) (G:h.Ns mainGlobals mg) (hb:∀(kV doc pm:Value) (an:Option Addr) (cdv ct:Value) (us:List Value),us.length=ps.length->bindArgs (PySem.W.fnOf x x (jby st) (jaX st) (jag st) .none kV doc pm an cdv ct) ⟨us,[]⟩=pure (ps.zip us):=by walk_at "bn"):At K mg x st ps [] :=
 let ⟨_,_,_,_,_,_,_,_,_,_,a,l,c,k⟩:=H
 at_mk X G hb a l c k
inductive AtMK (K:PySem.W.Frag) (C:Addr) (m q:Str) (st:Stmt):Prop
 | mk (f:Addr) (oc kV dc pm cd ct:Value) (od an:Option Addr) (sl:Array (Option Value)) (a:PySem.W.findIn K (.ref C) m=some (some (.ref f))) (l:K.lookup f=some ⟨oc,od,.func (PySem.W.fnOf m q (jby st) (jaX st) (jag st) .none kV dc pm an cd ct),sl⟩) (c:PySem.W.codeIn K cd q=true) (k:PySem.W.keepIn K (.ref f)=true) (n:PySem.W.isFn K (.ref f)=true)
theorem AtMK.go {K:PySem.W.Frag} {C:Addr} {m q:Str} {st:Stmt} {ps:List Str} (H:AtMK K C m q st) (hb:∀(kV doc pm:Value) (an:Option Addr) (cdv ct:Value) (us:List Value),us.length=ps.length->bindArgs (PySem.W.fnOf m q (jby st) (jaX st) (jag st) .none kV doc pm an cdv ct) ⟨us,[]⟩=pure (ps.zip us):=by walk_at "bn"):AtM K C m q st ps :=
 let ⟨f,_,kV,dc,pm,cd,ct,_,an,_,a,l,c,k,n⟩:=H
 ⟨f,_,.none,jfF l c k,⟨a,n,k⟩,.all (hb kV dc pm an cd ct)⟩
theorem jlV {l:PySem.W.OpenLaw} {w:World} {K:PySem.W.Frag} {h:Heap} {mg:Str->Option Value} {fa YC c0 c1 c2 c3:Addr} {t1 t2:Tok} (X:K.In h) (G:h.Ns mainGlobals mg) (hfa:mg "law"=some (.ref fa))
  {f39:Addr} {od39 an39:Option Addr} {sl39:Array (Option Value)} {oc39 kV39 dc39 pm39 cd39 ct39:Value}
  (kSE:PySem.W.nsIn K mainGlobals "SightError"=some (some (.ref SE))) (kYC:PySem.W.nsIn K mainGlobals "Yard"=some (some (.ref YC)))
  (kc0:PySem.W.nsIn K mainGlobals "NoName"=some (some (.ref c0))) (qc0:PySem.W.excIn K c0 [.type "ValueError",.type "Exception",.type "BaseException",.type "object"] "ValueError.__new__"=true)
  (kc1:PySem.W.nsIn K mainGlobals "NoBoard"=some (some (.ref c1))) (qc1:PySem.W.excIn K c1 [.type "ValueError",.type "Exception",.type "BaseException",.type "object"] "ValueError.__new__"=true)
  (kc2:PySem.W.nsIn K mainGlobals "TooMany"=some (some (.ref c2))) (qc2:PySem.W.excIn K c2 [.type "ValueError",.type "Exception",.type "BaseException",.type "object"] "ValueError.__new__"=true)
  (kc3:PySem.W.nsIn K mainGlobals "NoDeed"=some (some (.ref c3))) (qc3:PySem.W.excIn K c3 [.type "ValueError",.type "Exception",.type "BaseException",.type "object"] "ValueError.__new__"=true)
  (rC:clsY K SE [c0,c1,c2,c3]=true) (rY:yardOk K YC=true)
  (b___init__:AtMK K YC "__init__" "Yard.__init__" jbC)
  (b_names:AtMK K YC "names" "Yard.names" jcm)
  (b_boards:AtMK K YC "boards" "Yard.boards" jb1)
  (b_deeds:AtMK K YC "deeds" "Yard.deeds" jcn)
  (b_do_deed:AtMK K YC "do_deed" "Yard.do_deed" jbP)
  (b_put:AtMK K YC "put" "Yard.put" jdr)
  (b_place_of:AtMK K YC "place_of" "Yard.place_of" jbD)
  (b_drop:AtMK K YC "drop" "Yard.drop" jcV)
  (b_back:AtMK K YC "back" "Yard.back" jcW)
  {tC0:Tok} (kC0:PySem.W.nsIn K mainGlobals "MOST_LETTERS"=some (some (.int 8 tC0)))
  {tC1:Tok} (kC1:PySem.W.nsIn K mainGlobals "MOST_BOARDS"=some (some (.int 6 tC1)))
  (aS0:PySem.W.nsIn K mainGlobals "SHORT_BITS"=some (some (.int 2000 t1)))
  (aS1:PySem.W.nsIn K mainGlobals "MOST_CORNERS"=some (some (.int 8 t2)))
  (a0:AtK K "_law_names" jco)
  (a1:AtK K "_law_number" jb2)
  (a2:AtK K "_law_seen" jcZ)
  (a3:AtK K "_law_shape" jcp)
  (a4:AtK K "_law_arrows" jb3)
  (a5:AtK K "_law_rows" jcX)
  (a6:AtK K "_law_divisor" jbQ)
  (a7:AtK K "_law_spots" jcq)
  (a8:AtK K "_law_form" jcY)
  (a9:AtK K "_law_turned" jb4)
  (a10:AtK K "_law_spoilt" jb5)
  (a11:AtK K "_law_bad_name" jbE)
  (a12:AtK K "_law_put" jds)
  (a13:AtK K "is_name" jd4)
  (a14:AtK K "without" jd1)
  (a15:AtK K "crossed" jd0)
  (a16:AtK K "determinant" jbY)
  (a17:AtK K "minor_of" jdp)
  (a18:AtK K "in_line" jd2)
  (a19:AtK K "rough_plane" jbZ)
  (a20:AtK K "greatest_divisor" jbh)
  (a21:AtK K "in_lowest_terms" jbk)
  (a22:AtK K "made_plane" jck)
  (a23:AtK K "is_plain" jdq)
  (a24:AtK K "turned_about" jbN)
  (a25:AtK K "plane_through" jbB)
  (a26:AtK K "sign_of" jdZ)
  (a27:AtK K "height_over" jb0)
  (a28:AtK K "side_of" jd3)
  (a29:AtK K "flat_axis" jcT)
  (a30:AtK K "side_of_edge" jbO)
  (a31:AtK K "is_convex" jcU)
  (a32:AtK K "stands_first" jbM)
  (a33:AtK K "formed" jeL)
  (a34:AtK K "made_board" jcl)
  (a35:AtK K "_law_flags" jcr)
  (a36:AtK K "_law_tried" jcs)
  (a37:AtK K "_law_steps" jct)
  (a38:AtK K "_law_undone" jb6)
  (a39:PySem.W.nsIn K mainGlobals "law"=some (some (.ref f39))) (l39:K.lookup f39=some ⟨oc39,od39,.func (PySem.W.fnOf "law" "law" (jby jeM) (jaX jeM) (jag jeM) .none kV39 dc39 pm39 an39 cd39 ct39),sl39⟩) (c39:PySem.W.codeIn K cd39 "law"=true) (k39:PySem.W.keepIn K (.ref f39)=true)
  (z0:PySem.W.nsIn K mainGlobals "abs"=some none) (z1:PySem.W.nsIn K mainGlobals "max"=some none) (z2:PySem.W.nsIn K mainGlobals "min"=some none) (z3:PySem.W.nsIn K mainGlobals "len"=some none) (z4:PySem.W.nsIn K mainGlobals "all"=some none) (z5:PySem.W.nsIn K mainGlobals "range"=some none) (z6:PySem.W.nsIn K mainGlobals "tuple"=some none) (z7:PySem.W.nsIn K mainGlobals "list"=some none) (z8:PySem.W.nsIn K mainGlobals "str"=some none) (z9:PySem.W.nsIn K mainGlobals "isinstance"=some none) (z10:PySem.W.nsIn K mainGlobals "reversed"=some none) :
  ∃fd:FuncData,(∀(s:Shared) (v:Value),BindsTo s fd ⟨[v],[]⟩ [("script",v)])/\∀base:Heap,K.In base->base.Ns mainGlobals mg->FnOk l.prog w K mg base CX0 10 fa fd ["script"] (jiK K):=by
 have e:=hfa.symm.trans (PySem.W.mg_of X G a39);cases e;have T:Tx K mg t1 t2:=⟨PySem.W.mg_none_of X G z0,PySem.W.mg_none_of X G z1,PySem.W.mg_none_of X G z2,PySem.W.mg_none_of X G z3,PySem.W.mg_none_of X G z4,PySem.W.mg_none_of X G z5,PySem.W.mg_none_of X G z6,PySem.W.mg_none_of X G z7,PySem.W.mg_none_of X G z8,PySem.W.mg_none_of X G z9,PySem.W.mg_none_of X G z10,PySem.W.mg_of X G aS0,PySem.W.mg_of X G aS1,⟨_,PySem.W.mg_of X G kC0,⟨_,rfl⟩⟩,⟨_,PySem.W.mg_of X G kC1,⟨_,rfl⟩⟩⟩;have RC:=clsY.to rC;have RY:=yardOk.to rY;have TC:Tyd K mg t1 t2 (fun i=>[c0,c1,c2,c3].getD i 0) SE YC:={ toTx:=T,m_SightError:=PySem.W.mg_of X G kSE,m_NoName:=PySem.W.mg_of X G kc0,m_NoBoard:=PySem.W.mg_of X G kc1,m_TooMany:=PySem.W.mg_of X G kc2,m_NoDeed:=PySem.W.mg_of X G kc3,x_NoName:=⟨qc0,PySem.F.excBase_ValueError⟩,x_NoBoard:=⟨qc1,PySem.F.excBase_ValueError⟩,x_TooMany:=⟨qc2,PySem.F.excBase_ValueError⟩,x_NoDeed:=⟨qc3,PySem.F.excBase_ValueError⟩,xc:=RC.1,em:=RC.2.1,kt:=RC.2.2,m_Yard:=PySem.W.mg_of X G kYC,cl:=RY.1,nS:=RY.2.1,nP:=RY.2.2.1,mkY:=RY.2.2.2.1,kpY:=RY.2.2.2.2 };have FL:=jfF (st:=jeM) l39 c39 k39;refine⟨PySem.W.fnOf "law" "law" (jby jeM) (jaX jeM) (jag jeM) .none kV39 dc39 pm39 an39 cd39 ct39,fun s v=>.of_eq rfl,fun base _ _=>?_⟩;have D0:=jlC (P:=l.prog) (w:=w) (base:=base) T (a0.go X G);have D1:=jhT (P:=l.prog) (w:=w) (base:=base) T (a1.go X G);have D2:=jiZ (P:=l.prog) (w:=w) (base:=base) TC b___init__.go;have D3:=jiX (P:=l.prog) (w:=w) (base:=base) TC b_names.go;have D4:=jh0 (P:=l.prog) (w:=w) (base:=base) TC b_boards.go;have D5:=jiY (P:=l.prog) (w:=w) (base:=base) TC b_deeds.go;have D6:=jkA (P:=l.prog) (w:=w) (base:=base) TC (a2.go X G) D3 D4 D5;have D7:=jlF (P:=l.prog) (w:=w) (base:=base) T (a3.go X G);have D8:=jlH (P:=l.prog) (w:=w) (base:=base) T (a4.go X G);have D9:=jkv (P:=l.prog) (w:=w) (base:=base) T (a5.go X G) D7 D8;have D10:=jlw (P:=l.prog) (w:=w) (base:=base) T (a6.go X G);have D11:=ji2 (P:=l.prog) (w:=w) (base:=base) T (a7.go X G) D10;have D12:=jlM (P:=l.prog) (w:=w) (base:=base) T (a8.go X G) D11;have D13:=jlJ (P:=l.prog) (w:=w) (base:=base) T (a9.go X G);have D14:=jlP (P:=l.prog) (w:=w) (base:=base) T (a10.go X G);have D15:=jkt (P:=l.prog) (w:=w) (base:=base) T (a11.go X G);have D16:=jkx (P:=l.prog) (w:=w) (base:=base) T (a12.go X G) D9 D12 D11 D13 D14 D15;have D17:=jkm (P:=l.prog) (w:=w) (base:=base) T (a13.go X G);have D18:=jgR (P:=l.prog) (w:=w) (base:=base) T (a14.go X G);have D19:=jgQ (P:=l.prog) (w:=w) (base:=base) T (a15.go X G);have D20:=jln (P:=l.prog) (w:=w) (base:=base) T (a16.go X G) D19;have D21:=jiL (P:=l.prog) (w:=w) (base:=base) T (a17.go X G) D18 D20;have D22:=jkf (P:=l.prog) (w:=w) (base:=base) T (a18.go X G) D21;have D23:=jiO (P:=l.prog) (w:=w) (base:=base) T (a19.go X G) D21;have D24:=ok_gd (P:=l.prog) (w:=w) (base:=base) T (a20.go X G);have D25:=jlm (P:=l.prog) (w:=w) (base:=base) T (a21.go X G) D24;have D26:=jiP (P:=l.prog) (w:=w) (base:=base) T (a22.go X G) D25;have D27:=jiN (P:=l.prog) (w:=w) (base:=base) T (a23.go X G);have D28:=jhP (P:=l.prog) (w:=w) (base:=base) T (a24.go X G);have D29:=jgS (P:=l.prog) (w:=w) (base:=base) T (a25.go X G) D23 D26 D27 D28;have D30:=jkg (P:=l.prog) (w:=w) (base:=base) T (a26.go X G);have D31:=ok_ht (P:=l.prog) (w:=w) (base:=base) T (a27.go X G);have D32:=jkh (P:=l.prog) (w:=w) (base:=base) T (a28.go X G) D30 D31;have D33:=jki (P:=l.prog) (w:=w) (base:=base) T (a29.go X G);have D34:=jkj (P:=l.prog) (w:=w) (base:=base) T (a30.go X G) D30 D21;have D35:=jkl (P:=l.prog) (w:=w) (base:=base) T (a31.go X G) D34;have D36:=jiQ (P:=l.prog) (w:=w) (base:=base) T (a32.go X G);have D37:=jhR (P:=l.prog) (w:=w) (base:=base) T (a33.go X G) D36;have D38:=jhV (P:=l.prog) (w:=w) (base:=base) TC (a34.go X G) D22 D29 D32 D33 D35 D37;have D39:=ok_do (P:=l.prog) (w:=w) (base:=base) TC b_do_deed.go;have D40:=jlA (P:=l.prog) (w:=w) (base:=base) TC b_put.go D17 D3 D38 D39;have D41:=ji1 (P:=l.prog) (w:=w) (base:=base) TC b_place_of.go D3;have D42:=jkq (P:=l.prog) (w:=w) (base:=base) TC b_drop.go D41 D39;have D43:=jkr (P:=l.prog) (w:=w) (base:=base) TC b_back.go;have D44:=jlQ (P:=l.prog) (w:=w) (base:=base) TC (a35.go X G);have D45:=jlR (P:=l.prog) (w:=w) (base:=base) TC (a36.go X G) D40 D42 D43 D44;have D46:=ji5 (P:=l.prog) (w:=w) (base:=base) TC (a37.go X G) D45 D6;have D47:=jia (P:=l.prog) (w:=w) (base:=base) TC (a38.go X G) D45 D6;exact jlU TC FL D0 D1 D2 D6 D16 D46 D47 D45
theorem walk {l:PySem.W.OpenLaw} {q:Program} {loose:List Str} {XP:(Str->Option Value)->Heap->Prop} {YP:World->Heap->Prop} {d:DefRec} {K:Params->PySem.W.Frag} (hn:l.most=some 63) (hdf:d.params.defaults=[])
  (hY:∀(w:World) (h:Heap),YP w h->(K w.params).In h)
  (F:∀(w:World) (mg:Str->Option Value) (fa:Addr) (h:Heap),(K w.params).In h->h.Ns mainGlobals mg->mg d.name=some (.ref fa) ->
   ∃fd:FuncData,(∀(s:Shared) (u:Value),BindsTo s fd ⟨[u],[]⟩ [("script",u)])/\∀base:Heap,(K w.params).In base->base.Ns mainGlobals mg->FnOk l.prog w (K w.params) mg base CX0 10 fa fd ["script"] (jiK (K w.params))) :
  PySem.W.WalkO q loose XP YP l.row.toRowW d [] (fun f vs=>PySem.call f vs) :=
 L2.jjX (n:=63) (k:=10) (x:="script") (CX:=fun _=>CX0) (sp:=fun w=>jiK (K w.params)) hn (by decide) hdf ⟨rfl,by decide,by decide⟩ hY F (fun _ _ a ns hl _ hS=>⟨a,ns,rfl,hS,hl,fun _=>rfl⟩) fun _ _ _ _ _ z=>z
end My
namespace PySem.W.Fast
def tw10099306082081671566:=0
def tw10336296584022931270:=0
def tw10442340028019980459:=0
def tw10533747001102786884:=0
def tw1057499157479691171:=0
def tw10651464777945365805:=0
def tw10713172901031446205:=0
def tw10901314544804108193:=0
def tw1112690896712205190:=0
def tw11171206976009976329:=0
def tw11194172938408793026:=0
def tw11220425231327314119:=0
def tw11380526787747378666:=0
def tw11445240292503784035:=0
def tw11527597661753157828:=0
def tw11607217000657421986:=0
def tw11722129347753473209:=0
def tw11780041598627834214:=0
def tw11855957076649896030:=0
def tw11866489924490656247:=0
def tw11978359110934827041:=0
def tw12101805232610585898:=0
def tw12128125563296812283:=0
def tw12245085588161036765:=0
def tw12265915528273631970:=0
def tw12275240042649950057:=0
def tw12323820231925707677:=0
def tw1238255826628409103:=0
def tw12403014271439111755:=0
def tw12409256731625601563:=0
def tw1256127755339688299:=0
def tw12615256539978924641:=0
def tw12753287477343832823:=0
def tw1292389159322011654:=0
def tw12947415288414918358:=0
def tw13070112349902293465:=0
def tw13146539933604627551:=0
def tw131716649791248164:=0
def tw13411196564273905371:=0
def tw1341141448485235579:=0
def tw1353650632108166840:=0
def tw1397924295874571242:=0
def tw13985379887504325099:=0
def tw14215881898903885463:=0
def tw14720661690907406884:=0
def tw1479233881951385394:=0
def tw15320315098685062754:=0
def tw15725396758550479590:=0
def tw15854604181121911848:=0
def tw16024401919298672210:=0
def tw16149650072819418646:=0
def tw16352875934152761528:=0
def tw16474280774133261639:=0
def tw16477132161289132868:=0
def tw16584004675294502874:=0
def tw17159210627147334669:=0
def tw17219146536832125631:=0
def tw17328502192749624221:=0
def tw17452675565940601016:=0
def tw17527939993690714848:=0
def tw17662931848121573671:=0
def tw18174644930834961018:=0
def tw18398779705602143617:=0
def tw1874058935178066542:=0
def tw1925801482777263947:=0
def tw2013704753479393260:=0
def tw2048308394355806509:=0
def tw2130192305271892272:=0
def tw2140796711616928065:=0
def tw2280232584243286797:=0
def tw2414512823895002900:=0
def tw2463135715894086828:=0
def tw2533475341468876613:=0
def tw2621746846245750550:=0
def tw2675183192427655658:=0
def tw2675887684465038957:=0
def tw3121659855497296018:=0
def tw317265164944346664:=0
def tw3207943963282391584:=0
def tw3236441349451793382:=0
def tw3643466560291319924:=0
def tw3735978449043279186:=0
def tw3740522172570895473:=0
def tw3810710979415309963:=0
def tw3830711889552802693:=0
def tw4011476622209810920:=0
def tw4351577344767352960:=0
def tw4495759549046300571:=0
def tw4514005861037589228:=0
def tw4518774658677547088:=0
def tw4590085484212136274:=0
def tw4681546942256413148:=0
def tw5003413731714295670:=0
def tw5011566757958879156:=0
def tw5052035095629975071:=0
def tw5234000258636843351:=0
def tw5236391037856065597:=0
def tw5296320241022158071:=0
def tw5477054456718317782:=0
def tw5507148186253544267:=0
def tw55391953744172660:=0
def tw5598519596835612874:=0
def tw5768992969259215018:=0
def tw5823240526213808277:=0
def tw6037150040372961341:=0
def tw6267153539930738043:=0
def tw6337445870612931526:=0
def tw6446444364540037936:=0
def tw6609987720284121339:=0
def tw6981642265319663332:=0
def tw7034792934375695983:=0
def tw7247372656215962907:=0
def tw7349624526344829719:=0
def tw7403287894283640071:=0
def tw7454921753394209084:=0
def tw7479358240446729199:=0
def tw7480776819431928931:=0
def tw7652644037559488907:=0
def tw7683698581954348298:=0
def tw7800411336255614447:=0
def tw7814372513455085542:=0
def tw8008875523059524102:=0
def tw8128529120458221471:=0
def tw8135902063982117735:=0
def tw813894888371737251:=0
def tw8177704395368609161:=0
def tw8195512315637259575:=0
def tw8578697253816456151:=0
def tw8638310177570612641:=0
def tw8814956911200492053:=0
def tw8907899386729860915:=0
def tw8947810515057232502:=0
def tw9128778412090974051:=0
def tw9316918226180759611:=0
def tw9360898169277093003:=0
def tw9414706152262657149:=0
def tw9446603626027436564:=0
def tw9495746730940463051:=0
def tw9935500477506608595:=0
def tw9981094668707862749:=0
def tw9987275254027310299:=0
end PySem.W.Fast
open PySem PySem.W PyProof.Rows
set_option maxRecDepth 100000 in
set_option maxHeartbeats 0 in
theorem PySem.Challenge.cw_boardsight_k81_whole_all_taken_back_holds : PySem.Challenge.rw_boardsight_k81_whole_all_taken_back.Holds := by
  w_on;o_law;k_head;(case hw=>w_witness2)
  k_fill
  refine My.walk (l:=PySem.Challenge.rw_boardsight_k81_whole_all_taken_back) rfl rfl (fun w h Y=>PySem.W.kIn_of Y) ?F
  case F =>
    intro w mg fa h KX G hmg
    refine' My.jlV KX G hmg ?kSE ?kYC ?kc0 ?qc0 ?kc1 ?qc1 ?kc2 ?qc2 ?kc3 ?qc3 ?rC ?rY ?b___init__ ?b_names ?b_boards ?b_deeds ?b_do_deed ?b_put ?b_place_of ?b_drop ?b_back ?kC0 ?kC1 ?aS0 ?aS1 ?a0 ?a1 ?a2 ?a3 ?a4 ?a5 ?a6 ?a7 ?a8 ?a9 ?a10 ?a11 ?a12 ?a13 ?a14 ?a15 ?a16 ?a17 ?a18 ?a19 ?a20 ?a21 ?a22 ?a23 ?a24 ?a25 ?a26 ?a27 ?a28 ?a29 ?a30 ?a31 ?a32 ?a33 ?a34 ?a35 ?a36 ?a37 ?a38 ?a39 ?l39 ?c39 ?k39 ?z0 ?z1 ?z2 ?z3 ?z4 ?z5 ?z6 ?z7 ?z8 ?z9 ?z10
    (case kSE=>k_is)
    (case kYC=>k_is)
    (case kc0=>k_is)
    (case qc0=>first | k_exc | kernel_rfl | k_is)
    (case kc1=>k_is)
    (case qc1=>first | k_exc | kernel_rfl | k_is)
    (case kc2=>k_is)
    (case qc2=>first | k_exc | kernel_rfl | k_is)
    (case kc3=>k_is)
    (case qc3=>first | k_exc | kernel_rfl | k_is)
    (case rC=>first | kernel_rfl | k_is)
    (case rY=>first | kernel_rfl | k_is)
    (case b___init__=>apply My.AtMK.mk;k_is;k_is;k_is;k_is;k_is)
    (case b_names=>apply My.AtMK.mk;k_is;k_is;k_is;k_is;k_is)
    (case b_boards=>apply My.AtMK.mk;k_is;k_is;k_is;k_is;k_is)
    (case b_deeds=>apply My.AtMK.mk;k_is;k_is;k_is;k_is;k_is)
    (case b_do_deed=>apply My.AtMK.mk;k_is;k_is;k_is;k_is;k_is)
    (case b_put=>apply My.AtMK.mk;k_is;k_is;k_is;k_is;k_is)
    (case b_place_of=>apply My.AtMK.mk;k_is;k_is;k_is;k_is;k_is)
    (case b_drop=>apply My.AtMK.mk;k_is;k_is;k_is;k_is;k_is)
    (case b_back=>apply My.AtMK.mk;k_is;k_is;k_is;k_is;k_is)
    (case kC0=>k_is)
    (case kC1=>k_is)
    (case aS0=>k_is)
    (case aS1=>k_is)
    (case a39=>k_is)
    (case l39=>k_is)
    (case c39=>k_is)
    (case k39=>k_is)
    (case z0=>k_is)
    (case z1=>k_is)
    (case z2=>k_is)
    (case z3=>k_is)
    (case z4=>k_is)
    (case z5=>k_is)
    (case z6=>k_is)
    (case z7=>k_is)
    (case z8=>k_is)
    (case z9=>k_is)
    (case z10=>k_is)
    all_goals (apply My.AtK.mk;k_is;k_is;k_is;k_is)
