"""Scanmisses: what caches of every size miss of loops of scans."""
