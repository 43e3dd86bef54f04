"""Grantweave: licences of works made of parts."""
