"""Passmill: small programs of blocks, made better pass by pass."""
