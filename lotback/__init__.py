"""Lotback: lots poured through tanks, and which sold units can be bad."""
